/- Words, walked. -/
import Derived.Test.YtpdfenpmnpoehaaGreatDoorXB2
import Derived.Deep.RegionWith
import Derived.Deep.LoopGhost
import Derived.WalkMore
namespace Go.Proofs.YtpdfenpmnpoehaaGreatDoor
open Go.RowKit Go.Maps
set_option linter.unusedVariables false

def WordsP (s : ByteArray) (w : World) (e : Ending) (w' : World) : Prop :=
  ∃ v, e = .returned (.tuple #[v, .agg #[.int .i64 ((wordsB s.data.toList).2.1 : Nat), .int .i64 ((wordsB s.data.toList).2.2 : Nat)]]) ∧ RowW w.heap.size w' v (wordsB s.data.toList).1 ∧ Below w.heap.size w w'

theorem words_end {B y : Nat} {s : ByteArray} {w wa wr : World} {v : Value} {p : Nat} {l : List Wd} {c f : Nat} (h : Sc (y + 1) B s wr v p l c f) (he : wordsB s.data.toList = (l, c, f)) (hy : w.heap.size = y) (ha : Below y w wa) (hb : Below (y + 1) wa wr) (hyl : y < wa.heap.size) (u0 u1 : Value) :
    WordsP s w (.returned (.tuple #[v, .agg #[.int .i64 (c : Nat), .int .i64 (f : Nat)]])) (((wr.setCell ⟨y, 0, none⟩ u0).setCell ⟨y, 1, none⟩ u1).drew) := by
  have hf : Fr (fun k => k = y) wr (((wr.setCell ⟨y, 0, none⟩ u0).setCell ⟨y, 1, none⟩ u1).drew) :=
    (((Fr.refl (fun k => k = y) wr).setCell (p := ⟨y, 0, none⟩) (fun _ => rfl) _).setCell (p := ⟨y, 1, none⟩) (fun _ => rfl) _).drew
  refine ⟨v, by rw [he], ?_, ?_⟩
  · rw [he, hy]
    refine own_base (own_of h.row fun k hk => hf.block k (h.row.lt k hk).2 fun e => ?_) (by omega)
    have := (h.row.lt k hk).1
    omega
  · rw [hy]
    exact (ha.trans (hb.mono (by omega))).trans (hf.below_of (by have := hb.size; omega) (by rintro k rfl; exact Nat.le_refl _))

set_option maxRecDepth 100000 in
set_option maxHeartbeats 4000000 in
theorem words_some (s : ByteArray) (w : World) (hL : Lr w) (hs : s.size ≤ 4096) : Calls Tryz.prog 21 #[.string s] w (WordsP s w) := by
  have hsm : s.size ≤ maxLen := by unfold maxLen; omega
  obtain ⟨y, hy⟩ : ∃ y, w.heap.size = y := ⟨_, rfl⟩
  obtain ⟨wa, hwa⟩ : ∃ wa, w.alloc (.cells #[.int .i64 0, .int .i64 0] 30) = wa := ⟨_, rfl⟩
  obtain ⟨wb, hwb⟩ : ∃ wb, wa.alloc (.cells #[.string s, .int .i64 0, .slice none 0 0, .int .i64 0, .int .i64 0] 84) = wb := ⟨_, rfl⟩
  have hya : wa.heap.size = y + 1 := by rw [← hwa, ← hy]; simp
  have hby : Blk wa y 30 #[.int .i64 0, .int .i64 0] := by rw [← hwa, ← hy]; exact Blk.new w 30 _
  have ba : Below y w wa := by rw [← hwa, ← hy]; exact (Below.refl _ _).alloc (Nat.le_refl _) _
  have bb : Below (y + 1) wa wb := by rw [← hwb]; exact (Below.refl _ _).alloc (by omega) _
  have hy2 : 5 < y := by rw [← hy]; exact hL.lt
  have hsc : Sc (y + 1) (y + 1) s wb (.slice none 0 0) 0 [] 0 0 := {
    blk := by rw [← hwb, ← hya]; exact Blk.new wa 84 _
    row := ⟨rfl, .inl ⟨rfl, rfl⟩⟩
    le := Nat.le_refl _
    lr := (hL.keep (by omega) ba).keep (by omega) bb
    b2 := by omega }
  have HINV := Lib.hid (InvA.start hsc hs)
  have HMS : Hid (measW s (y + 1) wb = s.size + 1) := Lib.hid (by rw [hsc.meas]; rfl)
  have HY := Lib.hid hy
  have HWA := Lib.hid hwa
  have HWB := Lib.hid hwb
  have HBY := Lib.hid hby
  have HBA := Lib.hid ba
  have HBB := Lib.hid bb
  have HYA := Lib.hid hya
  have HEND : Hid (∀ wr v p l c f, Sc (y + 1) (y + 1) s wr v p l c f → wordsB s.data.toList = (l, c, f) → Below (y + 1) wa wr → ∀ u0 u1 : Value, WordsP s w (.returned (.tuple #[v, .agg #[.int .i64 (c : Nat), .int .i64 (f : Nat)]])) (((wr.setCell ⟨y, 0, none⟩ u0).setCell ⟨y, 1, none⟩ u1).drew)) :=
    Lib.hid fun wr v p l c f h he hb u0 u1 => words_end h he hy ba hb (by omega) u0 u1
  clear hy hwa hwb hya hby ba bb hsc hL
  go_enter Tryz.func21, Tryz.ntmps21
  go_wp2_with fail
  rw [HWA.out, HY.out]
  go_step3
  go_wp2_with fail
  go_step3
  go_wp2_with fail
  rw [HWB.out, HYA.out]
  go_loopg [5] (s.size + 1) (fun k r5 wr => Hid (LInv (y + 1) (y + 1) s wr) ∧ Hid (Below (y + 1) wa wr) ∧ measW s (y + 1) wr ≤ k)
  case atStart => exact ⟨HINV, HBB, by rw [HMS.out]; exact Nat.le_refl _⟩
  case round =>
    obtain ⟨HI, HBL, hmk⟩ := hrel
    have hby : Blk wr y 30 #[.int .i64 0, .int .i64 0] := HBY.out.of (HBL.out.block y (by omega))
    have y0 : wr.cell? ⟨y, 0, none⟩ = some (.int .i64 0) := hby.cell 0
    have y1 : wr.cell? ⟨y, 1, none⟩ = some (.int .i64 0) := hby.cell 1
    have z0 := hby.frozen 0
    have z1 := hby.frozen 1
    clear hby
    rcases HI.out with ⟨v, p, l, hA⟩ | hB
    · have hle := hA.2.1
      obtain ⟨g, hg⟩ : ∃ g, runB isBla (s.data.toList.drop p) = g := ⟨_, rfl⟩
      obtain ⟨n, hn⟩ : ∃ n, p + g = n := ⟨_, rfl⟩
      have hgl : p + g ≤ s.size := by
        have := runB_le isBla (s.data.toList.drop p)
        rw [List.length_drop, len_data, hg] at this; omega
      have HREST : Hid (∀ wx q, wx = wr.drewN q → Calls Tryz.prog 49 #[.pointer (some ⟨y + 1, 0, none⟩)] wx fun e w' => e = .returned (.string (s.extract p s.size)) ∧ ∃ m, w' = wr.drewN m) := Lib.hid fun wx q hx => by
        subst hx
        refine (rest_any (hA.1.drewN q) hle hsm).mono ?_
        rintro e w' ⟨he, m, hm⟩
        exact ⟨he, q + m, by rw [hm, World.drewN_drewN]⟩
      have HRUN : Hid (∀ wx q, wx = wr.drewN q → Calls Tryz.prog 48 #[.string (s.extract p s.size), .func (.func 50) #[] #[]] wx fun e w' => e = .returned (.int .i64 (g : Nat)) ∧ wx = w') := Lib.hid fun wx q hx => by
        subst hx
        have := run_blank (s.extract p s.size) (wr.drewN q) (hA.1.drewN q).lr (by rw [← len_data, rest_list, List.length_drop, len_data]; unfold maxLen at *; omega)
        rw [rest_list, hg] at this
        exact this
      have HAH : Hid (∀ q, Ahead (y + 1) (y + 1) s ((wr.drewN q).setCell ⟨y + 1, 1, none⟩ (.int .i64 (n : Nat))) v n l ∧ Below (y + 1) wr ((wr.drewN q).setCell ⟨y + 1, 1, none⟩ (.int .i64 (n : Nat)))) := Lib.hid fun q => hA.ahead q (by rw [hg, hn])
      have HMK : Hid (s.size + 1 - p ≤ gk) := Lib.hid (by rw [hA.1.meas, if_pos rfl] at hmk; exact hmk)
      have c1 : wr.cell? ⟨y + 1, 1, none⟩ = some (.int .i64 (p : Nat)) := hA.1.blk.cell 1
      have c3 : wr.cell? ⟨y + 1, 3, none⟩ = some (.int .i64 0) := hA.1.blk.cell 3
      have f1 := hA.1.blk.frozen 1
      have e1 : IntKind.i64.wrap ((p : Int) + (g : Int)) = (n : Int) := by rw [IntWalk.i64_in _ (by omega)]; omega
      have HPN : Hid (p ≤ n ∧ n ≤ s.size) := Lib.hid (by omega)
      clear hA hmk hg hn hgl
      go_upto_region 5 with fail
      go_cut [] (fun wx => ∃ q, wx = (wr.drewN q).setCell ⟨y + 1, 1, none⟩ (.int .i64 (n : Nat)))
      case first =>
        go_region_with (first
          | (go_at_call 49; (first | (refine (HREST.out _ _ rfl).mono ?_) | (refine (HREST.out _ 1 rfl).mono ?_)); rintro e w' ⟨rfl, m, rfl⟩)
          | (go_at_call 48; (first | (refine (HRUN.out _ _ rfl).mono ?_) | (refine (HRUN.out _ 1 rfl).mono ?_)); rintro e w' ⟨rfl, rfl⟩))
        all_goals (go_simp; go_wp2_with fail)
        all_goals go_meet
        all_goals exact ⟨_, rfl⟩
      case rest =>
        obtain ⟨q, hq⟩ := hcut
        have ha := HAH.out q
        rw [← hq] at ha
        have HAW := Lib.hid ha.1
        have HBC := Lib.hid ha.2
        clear hq ha HAH HREST HRUN c1 c3 f1 e1 y0 y1 z0 z1
        obtain ⟨k', rfl⟩ : ∃ k', gk = k' + 1 := ⟨gk - 1, by have := HMK.out; omega⟩
        obtain ⟨X, hX⟩ : ∃ X, s.extract n s.size = X := ⟨_, rfl⟩
        have HXL : Hid (X.data.toList = s.data.toList.drop n) := Lib.hid (by rw [← hX, rest_list])
        have hXs : n + X.size ≤ s.size := by
          have := HXL.out
          have h2 := congrArg List.length this
          rw [len_data, List.length_drop, len_data] at h2
          have := HPN.out
          omega
        have HREST2 : Hid (Calls Tryz.prog 49 #[.pointer (some ⟨y + 1, 0, none⟩)] wc fun e w' => e = .returned (.string X) ∧ ∃ m, w' = wc.drewN m) := Lib.hid (by rw [← hX]; exact rest_any HAW.out.sc HAW.out.le hsm)
        obtain ⟨K, hK⟩ : ∃ K, firstB (s.data.toList.drop n) = K := ⟨_, rfl⟩
        have HFST : Hid (∀ m, Calls Tryz.prog 51 #[.string X] (wc.drewN m) fun e w' => e = .returned (.int .u8 (K : Nat)) ∧ wc.drewN m = w') := Lib.hid fun m => by
          have := first_any X (wc.drewN m) (HAW.out.sc.drewN m).lr
          rw [HXL.out, hK] at this
          exact this
        have hl5 : l.length ≤ 5000 := by have := HAW.out.ln; have := HPN.out; omega
        have HXS := Lib.hid hXs
        clear hX
        by_cases hk6 : K = 6
        · subst hk6
          have hnil : s.data.toList.drop n = [] := by
            cases hd : s.data.toList.drop n with
            | nil => rfl
            | cons b m => rw [hd] at hK; have h1 := kind_lt b; have h2 : kindB b = 6 := hK; omega
          have HNIL := Lib.hid hnil
          have HTK : Hid (∀ m, Calls Tryz.prog 52 #[.pointer (some ⟨y + 1, 0, none⟩), .int .i64 6, .string ⟨#[]⟩, .int .i64 0] (wc.drewN m) fun e w' => e = .returned (.tuple #[]) ∧ ∃ v', Sc (y + 1) (y + 1) s w' v' (n + 0) (l ++ [⟨6, [], n⟩]) 0 0 ∧ Below (y + 1) wc w') := Lib.hid fun m => by
            refine (take_any (HAW.out.sc.drewN m) 6 0 ⟨#[]⟩ (by omega) (by have := HPN.out; omega) hsm hl5).mono ?_
            rintro e w' ⟨he, v', h1, h2⟩
            exact ⟨he, v', h1, (below_drewN _ _ m).trans h2⟩
          clear hK hnil
          go_wp2_with fail
          refine HREST2.out.mono ?_
          rintro e w' ⟨rfl, m, rfl⟩
          go_wp2_with fail
          refine (HFST.out m).mono ?_
          rintro e w' ⟨rfl, rfl⟩
          go_wp2_with fail
          refine (HTK.out m).mono ?_
          rintro e w2 ⟨rfl, v2, hsc, hb2⟩
          have hb := (HBL.out.trans HBC.out).trans hb2
          have hby : Blk w2 y 30 #[.int .i64 0, .int .i64 0] := HBY.out.of (hb.block y (by omega))
          have y0 : w2.cell? ⟨y, 0, none⟩ = some (.int .i64 0) := hby.cell 0
          have y1 : w2.cell? ⟨y, 1, none⟩ = some (.int .i64 0) := hby.cell 1
          have z0 := hby.frozen 0
          have z1 := hby.frozen 1
          have c3 : w2.cell? ⟨y + 1, 3, none⟩ = some (.int .i64 0) := hsc.blk.cell 3
          have c4 : w2.cell? ⟨y + 1, 4, none⟩ = some (.int .i64 0) := hsc.blk.cell 4
          have c2 : w2.cell? ⟨y + 1, 2, none⟩ = some v2 := hsc.blk.cell 2
          have HSC := Lib.hid hsc
          have HBW := Lib.hid hb
          have HEQ : Hid (wordsB s.data.toList = (l ++ [⟨6, [], n⟩], 0, 0)) := Lib.hid (by rw [HAW.out.eq, HNIL.out, scanB_end]; rfl)
          clear hsc hb hb2 hby
          go_wp2_with fail
          go_region
          go_wp2
          rw [Exit.noGoto_ret]
          refine bodyPost_ret (v := .tuple #[v2, .agg #[.int .i64 (0 : Nat), .int .i64 (0 : Nat)]]) (by simp [results, Tryz.results21, go_sem, y0, y1]) rfl ?_
          exact HEND.out _ _ _ _ _ _ HSC.out HEQ.out HBW.out _ _
        have HNE : Hid (s.data.toList.drop n ≠ []) := Lib.hid fun e => by rw [e] at hK; exact hk6 hK.symm
        have h60 : ((K : Int) == 6) = false := by simp; omega
        have HK6 := Lib.hid hk6
        have hr1 : 1 ≤ X.size := by
          have h1 := HNE.out
          rw [← HXL.out] at h1
          rw [← len_data]
          exact List.length_pos_iff.2 h1
        by_cases h2 : K = 2
        · have HST : Hid (∀ m, Calls Tryz.prog 53 #[.pointer (some ⟨y + 1, 0, none⟩), .string X] (wc.drewN m) (StepP (y + 1) (y + 1) s wc n l (wordT (s.data.toList.drop n)))) := Lib.hid fun m => by
            have hT : wordT (s.data.toList.drop n) = lettersT (s.data.toList.drop n) := by unfold wordT; rw [if_pos (hK.trans h2)]
            rw [hT]
            refine (letters_any (HAW.out.sc.drewN m) X hXs hsm hl5).mono fun e w' h => StepP.pre (below_drewN _ _ m) ?_
            rw [HXL.out] at h
            exact h
          subst h2
          clear hk6 hK HK6 h60
          go_wp2_with fail
          refine HREST2.out.mono ?_
          rintro e w' ⟨rfl, m, rfl⟩
          go_wp2_with fail
          refine (HFST.out m).mono ?_
          rintro e w' ⟨rfl, rfl⟩
          go_wp2_with fail
          refine (HST.out m).mono ?_
          intro e w2 hw2
          have H2 := Lib.hid (HAW.out.step HNE.out hw2)
          obtain ⟨rfl, _⟩ := hw2
          go_wp2
          go_roundg k'
          case measure => omega
          case rel => exact ⟨Lib.hid H2.out.1, Lib.hid ((HBL.out.trans HBC.out).trans H2.out.2.1), by have := H2.out.2.2; have := HMK.out; have := HPN.out; omega⟩
        have h20 : ((K : Int) == 2) = false := by simp; omega
        by_cases h3 : K = 3
        · have HST : Hid (∀ m, Calls Tryz.prog 54 #[.pointer (some ⟨y + 1, 0, none⟩), .string X] (wc.drewN m) (StepP (y + 1) (y + 1) s wc n l (wordT (s.data.toList.drop n)))) := Lib.hid fun m => by
            have hT : wordT (s.data.toList.drop n) = digitsT (s.data.toList.drop n) := by unfold wordT; rw [if_neg (by omega), if_pos (hK.trans h3)]
            rw [hT]
            refine (digits_any (HAW.out.sc.drewN m) X hXs hsm hl5).mono fun e w' h => StepP.pre (below_drewN _ _ m) ?_
            rw [HXL.out] at h
            exact h
          subst h3
          clear hk6 hK HK6 h60
          go_wp2_with fail
          refine HREST2.out.mono ?_
          rintro e w' ⟨rfl, m, rfl⟩
          go_wp2_with fail
          refine (HFST.out m).mono ?_
          rintro e w' ⟨rfl, rfl⟩
          go_wp2_with fail
          refine (HST.out m).mono ?_
          intro e w2 hw2
          have H2 := Lib.hid (HAW.out.step HNE.out hw2)
          obtain ⟨rfl, _⟩ := hw2
          go_wp2
          go_roundg k'
          case measure => omega
          case rel => exact ⟨Lib.hid H2.out.1, Lib.hid ((HBL.out.trans HBC.out).trans H2.out.2.1), by have := H2.out.2.2; have := HMK.out; have := HPN.out; omega⟩
        have h30 : ((K : Int) == 3) = false := by simp; omega
        by_cases h4 : K = 4
        · have HST : Hid (∀ m, Calls Tryz.prog 55 #[.pointer (some ⟨y + 1, 0, none⟩), .string X] (wc.drewN m) (StepP (y + 1) (y + 1) s wc n l (wordT (s.data.toList.drop n)))) := Lib.hid fun m => by
            have hT : wordT (s.data.toList.drop n) = quotedT (s.data.toList.drop n) := by unfold wordT; rw [if_neg (by omega), if_neg (by omega), if_pos (hK.trans h4)]
            rw [hT]
            refine (quoted_any (HAW.out.sc.drewN m) X hXs hr1 hs hl5).mono fun e w' h => StepP.pre (below_drewN _ _ m) ?_
            rw [HXL.out] at h
            exact h
          subst h4
          clear hk6 hK HK6 h60
          go_wp2_with fail
          refine HREST2.out.mono ?_
          rintro e w' ⟨rfl, m, rfl⟩
          go_wp2_with fail
          refine (HFST.out m).mono ?_
          rintro e w' ⟨rfl, rfl⟩
          go_wp2_with fail
          refine (HST.out m).mono ?_
          intro e w2 hw2
          have H2 := Lib.hid (HAW.out.step HNE.out hw2)
          obtain ⟨rfl, _⟩ := hw2
          go_wp2
          go_roundg k'
          case measure => omega
          case rel => exact ⟨Lib.hid H2.out.1, Lib.hid ((HBL.out.trans HBC.out).trans H2.out.2.1), by have := H2.out.2.2; have := HMK.out; have := HPN.out; omega⟩
        have h40 : ((K : Int) == 4) = false := by simp; omega
        by_cases h5 : K = 5
        · have HST : Hid (∀ m, Calls Tryz.prog 56 #[.pointer (some ⟨y + 1, 0, none⟩), .string X] (wc.drewN m) (StepP (y + 1) (y + 1) s wc n l (wordT (s.data.toList.drop n)))) := Lib.hid fun m => by
            have hT : wordT (s.data.toList.drop n) = signT (s.data.toList.drop n) := by unfold wordT; rw [if_neg (by omega), if_neg (by omega), if_neg (by omega), if_pos (hK.trans h5)]
            rw [hT]
            refine (sign_any (HAW.out.sc.drewN m) X hXs hr1 hsm hl5).mono fun e w' h => StepP.pre (below_drewN _ _ m) ?_
            rw [HXL.out] at h
            exact h
          subst h5
          clear hk6 hK HK6 h60
          go_wp2_with fail
          refine HREST2.out.mono ?_
          rintro e w' ⟨rfl, m, rfl⟩
          go_wp2_with fail
          refine (HFST.out m).mono ?_
          rintro e w' ⟨rfl, rfl⟩
          go_wp2_with fail
          refine (HST.out m).mono ?_
          intro e w2 hw2
          have H2 := Lib.hid (HAW.out.step HNE.out hw2)
          obtain ⟨rfl, _⟩ := hw2
          go_wp2
          go_roundg k'
          case measure => omega
          case rel => exact ⟨Lib.hid H2.out.1, Lib.hid ((HBL.out.trans HBC.out).trans H2.out.2.1), by have := H2.out.2.2; have := HMK.out; have := HPN.out; omega⟩
        have h50 : ((K : Int) == 5) = false := by simp; omega
        · have HST : Hid (∀ m, Calls Tryz.prog 57 #[.pointer (some ⟨y + 1, 0, none⟩), .int .i64 40, .int .i64 0] (wc.drewN m) (StepP (y + 1) (y + 1) s wc n l (wordT (s.data.toList.drop n)))) := Lib.hid fun m => by
            have hT : wordT (s.data.toList.drop n) = .bad 40 0 := by unfold wordT; rw [if_neg (by omega), if_neg (by omega), if_neg (by omega), if_neg (by omega)]
            rw [hT]
            refine (step_fail (q := 0) (HAW.out.sc.drewN m) rfl 40 0 (by have := HPN.out; omega) hsm rfl).mono fun e w' h => StepP.pre (below_drewN _ _ m) ?_
            rw [show (Tk.bad 40 0) = Tk.bad 40 0 from rfl] at h
            exact h
          skip
          clear hk6 hK HK6
          go_wp2_with fail
          refine HREST2.out.mono ?_
          rintro e w' ⟨rfl, m, rfl⟩
          go_wp2_with fail
          refine (HFST.out m).mono ?_
          rintro e w' ⟨rfl, rfl⟩
          go_wp2_with fail
          refine (HST.out m).mono ?_
          intro e w2 hw2
          have H2 := Lib.hid (HAW.out.step HNE.out hw2)
          obtain ⟨rfl, _⟩ := hw2
          go_wp2
          go_roundg k'
          case measure => omega
          case rel => exact ⟨Lib.hid H2.out.1, Lib.hid ((HBL.out.trans HBC.out).trans H2.out.2.1), by have := H2.out.2.2; have := HMK.out; have := HPN.out; omega⟩
    · obtain ⟨v, p, c, f, hsc, hc, he⟩ := hB
      have c3 : wr.cell? ⟨y + 1, 3, none⟩ = some (.int .i64 (c : Nat)) := hsc.blk.cell 3
      have c4 : wr.cell? ⟨y + 1, 4, none⟩ = some (.int .i64 (f : Nat)) := hsc.blk.cell 4
      have c2 : wr.cell? ⟨y + 1, 2, none⟩ = some v := hsc.blk.cell 2
      have hc0 : ((c : Int) == 0) = false := by simp; omega
      have HSC := Lib.hid hsc
      have HEQ := Lib.hid he
      clear hsc he hc hmk
      go_wp2_with fail
      go_region
      go_wp2
      rw [Exit.noGoto_ret]
      refine bodyPost_ret (v := .tuple #[v, .agg #[.int .i64 (c : Nat), .int .i64 (f : Nat)]]) (by simp [results, Tryz.results21, go_sem, y0, y1]) rfl ?_
      exact HEND.out _ _ _ _ _ _ HSC.out HEQ.out HBL.out _ _
end Go.Proofs.YtpdfenpmnpoehaaGreatDoor
