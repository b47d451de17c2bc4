/- Check: whether facts may be appended. -/
import Derived.Test.YtmaeejojmbibnaaF6
namespace Go.Proofs.Ytmaeejojmbibnaa
open Go.RowKit Go.Maps
set_option linter.unusedVariables false

theorem chk46 {S : FS} {l : List FactP} (h : 64 < l.length) : chk S l = 46 := if_pos h
theorem chk26 {S : FS} {l : List FactP} (h : l.length ≤ 64) {f : FactP} (hf : f ∈ l) (hn : ¬ f.Fits S.K S.M) : chk S l = 26 := by
  unfold chk
  rw [if_neg (by omega), if_pos]
  rw [List.all_eq_false]
  exact ⟨f, hf, by simpa using hn⟩
theorem chk12 {S : FS} {l : List FactP} (h : l.length ≤ 64) (hf : ∀ f ∈ l, f.Fits S.K S.M) {d : Nat} (hd : d < S.K) (hn : ¬ (addAll (S.D d) d l).length ≤ 4096) : chk S l = 12 := by
  unfold chk
  have h1 : l.all (fun f => decide (f.Fits S.K S.M)) = true := by
    rw [List.all_eq_true]; intro f hx; exact decide_eq_true (hf f hx)
  have h2 : anyTo (fun d => decide (4096 < (addAll (S.D d) d l).length)) S.K = true := by
    unfold anyTo
    rw [List.any_eq_true]
    exact ⟨d, by simpa using hd, decide_eq_true (by omega)⟩
  rw [if_neg (by omega), h1, h2]; rfl
theorem chk0 {S : FS} {l : List FactP} (h : l.length ≤ 64) (hf : ∀ f ∈ l, f.Fits S.K S.M) (hn : ∀ d, d < S.K → (addAll (S.D d) d l).length ≤ 4096) : chk S l = 0 := by
  unfold chk
  have h1 : l.all (fun f => decide (f.Fits S.K S.M)) = true := by
    rw [List.all_eq_true]; intro f hx; exact decide_eq_true (hf f hx)
  have h2 : anyTo (fun d => decide (4096 < (addAll (S.D d) d l).length)) S.K = false := by
    unfold anyTo
    rw [List.any_eq_false]
    intro d hd
    have := hn d (by simpa using hd)
    simpa using this
  rw [if_neg (by omega), h1, h2]; rfl

def ChkP (n : Int) (w : World) (e : Ending) (w' : World) : Prop := e = .returned (.int .i64 n) ∧ Fr No w w'
section
variable (s : Nat) (Q : SRp) (S : FS) (B : List (List FactP)) (l0 : List FactP) (w : World)
theorem check_none (p : Option Addr) (A : Option Addr) (n c : Nat) (hn : NoneP p w) : Calls Try.prog 27 #[.pointer p, .slice A n c] w (ChkP 1 w) := by
  have HN : Hid (NoneP p w) := Lib.hid hn
  clear hn
  go_enter Try.func27, Try.ntmps27
  go_wp2_with (go_at_call 36; refine HN.out.mono ?_; rintro e w' ⟨rfl, rfl⟩)
  go_ret
  exact ⟨rfl, Fr.refl _ _⟩
theorem check_many (h : SAt w s Q S) (hW : FW S B l0) (K : Nat → Prop) (lv : Value) (l : List FactP) (hl : Facts K w lv l) (hl64 : 64 < l.length) :
    Calls Try.prog 27 #[.pointer (some ⟨s, 0, none⟩), lv] w (ChkP 46 w) := by
  have H := Lib.hid (none_any s Q S B l0 w h hW)
  have hm := hl.len_le
  unfold maxLen at hm
  obtain ⟨A, cl, rfl⟩ := hl.slice
  obtain ⟨n, hn⟩ : ∃ n, l.length = n := ⟨_, rfl⟩
  rw [hn] at hl64 hm ⊢
  clear h hl hn
  go_enter Try.func27, Try.ntmps27
  go_wp2_with (go_at_call 36; refine H.out.mono ?_; rintro e w' ⟨rfl, rfl⟩)
  go_ret
  exact ⟨rfl, Fr.refl _ _⟩
set_option maxRecDepth 100000 in
set_option maxHeartbeats 4000000 in
theorem check_in (h : SAt w s Q S) (hW : FW S B l0) (K : Nat → Prop) (lv : Value) (l : List FactP) (hl : Facts K w lv l) (hl64 : l.length ≤ 64) :
    Calls Try.prog 27 #[.pointer (some ⟨s, 0, none⟩), lv] w (ChkP (chk S l) w) := by
  have H := Lib.hid (none_any s Q S B l0 w h hW)
  have HAT := Lib.hid h
  have HL := Lib.hid hl
  have HFT : Hid (∀ w1, Fr No w w1 → ∀ dv mv (f : FactP), RowE K w1 1 strE dv f.dims → RowE K w1 1 intE mv f.meas → Calls Try.prog 47 #[.pointer (some ⟨s, 0, none⟩), .agg #[dv, mv]] w1 (FitsP (decide (f.Fits S.K S.M)) w1)) := Lib.hid fun w1 f1 dv mv f hd hm => fits_any s Q S B l0 w1 (h.keep f1) hW K dv mv f hd hm
  have HRM : Hid (∀ w1, Fr No w w1 → (∀ f ∈ l, f.Fits S.K S.M) → ∀ d, d < S.K → Calls Try.prog 48 #[.pointer (some ⟨s, 0, none⟩), .int .i64 d, lv] w1 (FitsP (decide ((addAll (S.D d) d l).length ≤ 4096)) w1)) := Lib.hid fun w1 f1 hf d hd => room_any s Q S B l0 w1 (h.keep f1) hW K lv l (hl.keep f1) hl64 hf d hd
  have hk := hW.k
  have HC26 : Hid (∀ f ∈ l, ¬ f.Fits S.K S.M → chk S l = 26) := Lib.hid fun f hf hn => chk26 hl64 hf hn
  have HC12 : Hid ((∀ f ∈ l, f.Fits S.K S.M) → ∀ d, d < S.K → ¬ (addAll (S.D d) d l).length ≤ 4096 → chk S l = 12) := Lib.hid fun hf d hd hn => chk12 hl64 hf hd hn
  have HC0 : Hid ((∀ f ∈ l, f.Fits S.K S.M) → (∀ d, d < S.K → (addAll (S.D d) d l).length ≤ 4096) → chk S l = 0) := Lib.hid fun hf hn => chk0 hl64 hf hn
  obtain ⟨A, cl, rfl⟩ := hl.slice
  obtain ⟨n, hn⟩ : ∃ n, l.length = n := ⟨_, rfl⟩
  have HN := Lib.hid hn
  rw [hn] at hl64 HRM ⊢
  generalize chk S l = r at *
  obtain ⟨k, hke⟩ : ∃ k, S.K = k := ⟨_, rfl⟩
  have HKE := Lib.hid hke
  clear h hl hn hW
  rw [hke] at hk
  clear hke
  go_enter Try.func27, Try.ntmps27
  go_wp2_with (go_at_call 36; refine H.out.mono ?_; rintro e w' ⟨rfl, rfl⟩)
  go_loopw [15] (fun i wr => ∃ j : Nat, j ≤ n ∧ i = .int .i64 j ∧ Hid (Fr No w wr ∧ ∀ i (h : i < l.length), i < j → l[i].Fits S.K S.M)) (fun i _ => n - (intOf i).toNat)
  case atStart => exact ⟨0, by omega, rfl, Lib.hid ⟨Fr.refl _ _, fun i _ h => by omega⟩⟩
  case round =>
    obtain ⟨j, hj, rfl, HI⟩ := hrel
    by_cases hlt : j < n
    · have hjl : j < l.length := by rw [HN.out]; exact hlt
      have hr := HL.out.keep HI.out.1
      obtain ⟨g, off, c, e, hg, hgl, hcell⟩ := Facts.at_ hr (by omega)
      injection e with e _ e2
      subst e
      subst e2
      obtain ⟨dv, mv, k0, k1, rd, rm⟩ := hcell j hjl
      obtain ⟨A1, c1, rfl⟩ := rd.slice
      obtain ⟨A2, c2, rfl⟩ := rm.slice
      obtain ⟨wa, hwa⟩ : ∃ wa, wr.alloc (.cells #[.slice A1 l[j].dims.length c1, .slice A2 l[j].meas.length c2] 51) = wa := ⟨_, rfl⟩
      obtain ⟨bx, hbx⟩ : ∃ bx, wr.heap.size = bx := ⟨_, rfl⟩
      have hbk : Blk wa bx 51 #[.slice A1 l[j].dims.length c1, .slice A2 l[j].meas.length c2] := by rw [← hwa, ← hbx]; exact Blk.new wr 51 _
      have fa : Fr No wr wa := by rw [← hwa]; exact (Fr.refl _ wr).alloc _
      have x0 : wa.cell? ⟨bx, 0, none⟩ = some (.slice A1 l[j].dims.length c1) := hbk.cell 0
      have x1 : wa.cell? ⟨bx, 1, none⟩ = some (.slice A2 l[j].meas.length c2) := hbk.cell 1
      have HF := Lib.hid (HFT.out wa (HI.out.1.trans fa fun _ _ h => h) _ _ l[j] (rd.of fa.size (fun k hk hlt => ⟨hk, fa.block k hlt id⟩) fun _ _ _ h => h) (rm.of fa.size (fun k hk hlt => ⟨hk, fa.block k hlt id⟩) fun _ _ _ h => h))
      have HWA := Lib.hid hwa
      have HBX := Lib.hid hbx
      have HFA := Lib.hid fa
      clear hr hcell rd rm hwa hbx fa hg hgl hbk
      obtain ⟨n1, hn1⟩ : ∃ n, l[j].dims.length = n := ⟨_, rfl⟩
      obtain ⟨n2, hn2⟩ : ∃ n, l[j].meas.length = n := ⟨_, rfl⟩
      rw [hn1] at k0 x0 HWA HF
      rw [hn2] at k1 x1 HWA HF
      clear hn1 hn2
      by_cases hfit : l[j].Fits S.K S.M
      · have HFit := Lib.hid hfit
        rw [decide_eq_true hfit] at HF
        clear hfit
        go_upto_region 8 with fail
        rw [HWA.out, HBX.out]
        go_wp2_with (go_at_call 47; refine HF.out.mono ?_; rintro e w2 ⟨rfl, f2⟩; have F2 := Lib.hid f2; clear f2)
        go_roundw
        case rel =>
          have hr : Hid (Fr No w w2 ∧ ∀ i (h : i < l.length), i < j + 1 → l[i].Fits S.K S.M) := Lib.hid ⟨(HI.out.1.trans HFA.out fun _ _ h => h).trans F2.out fun _ _ h => h, fun i hi hij => by
            rcases Nat.lt_or_ge i j with h | h
            · exact HI.out.2 i hi h
            · have e : i = j := by omega
              subst e; exact HFit.out⟩
          exact ⟨j + 1, by omega, by go_num, hr⟩
        case measure => simp [intOf]; omega
      · have HR := Lib.hid (HC26.out _ (List.getElem_mem hjl) hfit)
        rw [decide_eq_false hfit] at HF
        clear hfit
        go_upto_region 8 with fail
        rw [HWA.out, HBX.out]
        go_wp2_with (go_at_call 47; refine HF.out.mono ?_; rintro e w2 ⟨rfl, f2⟩; have F2 := Lib.hid f2; clear f2)
        go_ret
        exact ⟨ret_int HR.out.symm, (HI.out.1.trans HFA.out fun _ _ h => h).trans F2.out fun _ _ h => h⟩
    · obtain rfl : j = n := by omega
      have HALL : Hid (∀ f ∈ l, f.Fits S.K S.M) := Lib.hid fun f hf => by
        obtain ⟨i, hi, rfl⟩ := List.getElem_of_mem hf
        exact HI.out.2 i hi (by rw [← HN.out]; exact hi)
      have ha := HAT.out.keep HI.out.1
      have ha0 := ha.cells.1
      obtain ⟨gd, cd, ed⟩ := ha.dform
      rw [ed, HKE.out] at ha0
      have HF1 := Lib.hid HI.out.1
      clear ha ed HI
      go_wp2
      go_loopw [29] (fun i wx => ∃ j : Nat, j ≤ k ∧ i = .int .i64 j ∧ Hid (Fr No w wx ∧ ∀ d, d < j → (addAll (S.D d) d l).length ≤ 4096)) (fun i _ => k - (intOf i).toNat)
      case atStart => exact ⟨0, by omega, rfl, Lib.hid ⟨HF1.out, fun d h => by omega⟩⟩
      case round =>
        obtain ⟨i, hi, rfl, HI⟩ := hrel
        by_cases hlt : i < k
        · have HF := Lib.hid (HRM.out _ HI.out.1 HALL.out i (by rw [HKE.out]; exact hlt))
          by_cases hfit : (addAll (S.D i) i l).length ≤ 4096
          · have HFit := Lib.hid hfit
            rw [decide_eq_true hfit] at HF
            clear hfit
            go_wp2_with (go_at_call 48; refine HF.out.mono ?_; rintro e w2 ⟨rfl, f2⟩; have F2 := Lib.hid f2; clear f2)
            go_roundw
            case rel => exact ⟨i + 1, by omega, by go_num, Lib.hid ⟨HI.out.1.trans F2.out fun _ _ h => h, fun d hdi => by
              rcases Nat.lt_or_ge d i with h | h
              · exact HI.out.2 d h
              · have e : d = i := by omega
                subst e; exact HFit.out⟩⟩
            case measure => simp [intOf]; omega
          · have HR := Lib.hid (HC12.out HALL.out i (by rw [HKE.out]; exact hlt) hfit)
            rw [decide_eq_false hfit] at HF
            clear hfit
            go_wp2_with (go_at_call 48; refine HF.out.mono ?_; rintro e w2 ⟨rfl, f2⟩; have F2 := Lib.hid f2; clear f2)
            go_ret
            exact ⟨ret_int HR.out.symm, HI.out.1.trans F2.out fun _ _ h => h⟩
        · obtain rfl : i = k := by omega
          have HR := Lib.hid (HC0.out HALL.out fun d hd => HI.out.2 d (by rw [← HKE.out]; exact hd))
          go_wp2
          go_ret
          exact ⟨ret_int HR.out.symm, HI.out.1⟩
theorem check_any (h : SAt w s Q S) (hW : FW S B l0) (K : Nat → Prop) (lv : Value) (l : List FactP) (hl : Facts K w lv l) :
    Calls Try.prog 27 #[.pointer (some ⟨s, 0, none⟩), lv] w (ChkP (chk S l) w) := by
  by_cases hl64 : 64 < l.length
  · rw [chk46 hl64]
    exact check_many s Q S B l0 w h hW K lv l hl hl64
  · exact check_in s Q S B l0 w h hW K lv l hl (by omega)
end
end Go.Proofs.Ytmaeejojmbibnaa
