/- The law SchedFair, walked. -/
import Derived.Test.YtnonidoeakhfdaaD6
import Derived.RegionTactic
import Derived.Deep.RegionWith
namespace Go.Proofs.Ytnonidoeakhfdaa
open Go.RowKit Go.Maps Go.Sort
set_option linter.unusedVariables false

theorem FA.imp {w wr : World} {d : Nat} {P P' : SS → Prop} {vl vc : Value} {l cm : List Int} (h : FA w d P vl l vc cm wr) (hP : ∀ S, P S → P' S) : FA w d P' vl l vc cm wr := by
  obtain ⟨S, X, h1, h2, h3⟩ := h.ex
  exact ⟨⟨S, X, h1, hP S h2, h3⟩, h.rl, h.rc, h.ap, h.fr⟩
theorem FA.keep {w wr w' : World} {d : Nat} {P : SS → Prop} {vl vc : Value} {l cm : List Int} (h : FA w d P vl l vc cm wr) (hf : Fr No wr w') : FA w d P vl l vc cm w' := by
  obtain ⟨S, X, h1, h2, h3⟩ := h.ex
  exact ⟨⟨S, X, h1.keep hf, h2, h3⟩, own_of h.rl fun k hk => hf.block k (World.ownsRow.lt h.rl k hk).2 id, own_of h.rc fun k hk => hf.block k (World.ownsRow.lt h.rc k hk).2 id, h.ap, h.fr.trans hf fun _ _ hj => hj.elim⟩
def Tz (i : Nat) (S : SS) : Prop := TI S i T0 i ∧ ∀ n, S.lock n = none

/-- How far the tasks have come. -/
structure Came (w : World) (d N : Nat) (lock : Int) (i : Nat) (lv cv : Value) (cm l : List Int) (wr : World) : Prop where
  fa : FA w d (fun S => HI S N lock cm (N + i)) lv l cv cm wr
  lc : cm.length = i
  ll : l.length + i = N
  pm : (cm ++ l).Perm (rng N)

theorem Came.mem {w wr : World} {d N i : Nat} {lock : Int} {lv cv : Value} {cm l : List Int} (h : Came w d N lock i lv cv cm l wr) {t : Int} {k : Nat} (ht : l[k]? = some t) : t ∈ rng N ∧ t ∉ cm := by
  have hl : t ∈ l := List.mem_of_getElem? ht
  have hnd := (h.pm.nodup_iff).2 (rng_nodup N)
  refine ⟨(h.pm.mem_iff).1 (List.mem_append_right _ hl), fun hc => ?_⟩
  exact (List.nodup_append.1 hnd).2.2 t hc t hl rfl
theorem Came.perm {w wr : World} {d N i : Nat} {lock : Int} {lv cv : Value} {cm l : List Int} (h : Came w d N lock i lv cv cm l wr) {t : Int} {k : Nat} (ht : l[k]? = some t) : ((cm ++ [t]) ++ rest_ l k).Perm (rng N) := by
  rw [List.append_assoc]
  exact (List.Perm.append_left cm (rest_perm ht)).trans h.pm

set_option maxRecDepth 100000 in
set_option maxHeartbeats 6000000 in
theorem schedfair_any (w : World) (A : Option Addr) (n c : Nat) (order : List Int) (lock : Int) (hL : ListAt (Value.int .i64) w A n c order) (hR : ∀ z ∈ order, -9223372036854775808 ≤ z ∧ z ≤ 9223372036854775807) (hlw : (Lit.int .i64 lock).wf = true) :
    Calls Try.prog 4 #[.slice A n c, .int .i64 lock] w fun e w' => e = .returned (.bool true) ∧ Below w.heap.size w w' := by
  have HA := Lib.hid hL
  have HW := Lib.hid hlw
  have HRg := Lib.hid hR
  have hcap : (n : Int) ≤ 9223372036854775807 := by have := hL.cap; unfold maxLen at this; omega
  clear hL hlw hR
  go_enter Try.func4, Try.ntmps4
  go_wp2_with fail
  refine (awake_any _).mono ?_
  rintro e w1 ⟨rfl, b⟩
  have F0 := Lib.hid (frO_bel b)
  have hw1 := b.size
  clear b
  go_wp2_with fail
  refine (m_new (Old w.heap.size) fun k hk => Nat.lt_of_lt_of_le hk hw1).mono ?_
  rintro e w2 ⟨d, rfl, h0, f0⟩
  have hF : Fr (Out (Old w.heap.size)) w w2 := frO F0.out f0.any
  have HT : Hid (FA w d (Tz 0) (.slice none 0 0) (rng 0) (.slice none 0 0) [] w2) := Lib.hid ⟨⟨_, _, h0, ⟨TI.zero _, fun n => rfl⟩, fun k hk => hk, (fun k hk => by cases hk), (fun k hk => by cases hk)⟩, World.ownsRow_nil _ _ 3 1, World.ownsRow_nil _ _ 3 1, (fun k hk => by cases hk), hF⟩
  clear h0 f0 F0 hw1 hF
  by_cases hneg : lock < 0
  · go_wp2
    go_ret
    exact ⟨rfl, bel_of HT.out.fr (Nat.le_refl _)⟩
  have hl0 : 0 ≤ lock := by omega
  go_upto_if 36 with fail
  go_cut [7] (fun v wx => w2 = wx ∧ ∃ N : Nat, N ≤ n ∧ N ≤ 40 ∧ v = .int .i64 N)
  case first =>
    by_cases h40 : (n : Int) > 40
    · go_wp2_with fail
      go_meet
      exact ⟨rfl, 40, by omega, by omega, rfl⟩
    · go_wp2_with fail
      go_meet
      exact ⟨rfl, n, by omega, by omega, rfl⟩
  case rest =>
  obtain ⟨rfl, N, hN, hN40, rfl⟩ := hcut
  go_wp2
  go_loopw [8, 9] (fun lv iv wr => ∃ i : Nat, i ≤ N ∧ iv = .int .i64 i ∧ FA w d (Tz i) lv (rng i) (.slice none 0 0) [] wr) (fun _ iv _ => N - (intOf iv).toNat)
  case atStart => exact ⟨0, Nat.zero_le _, rfl, HT.out⟩
  case round =>
    obtain ⟨i, hi, rfl, hF⟩ := hrel
    have HF := Lib.hid hF
    clear hF HT
    by_cases hlt : i < N
    · go_wp2_with (first
        | (go_at_call 20; refine (HF.out.start (by omega) (by omega)).mono ?_; rintro e w3 ⟨rfl, hF3⟩; obtain ⟨v', w4, hr, hF4⟩ := hF3.addl ((i : Int) + 1) (by rw [rng_len]; omega); have HR := Lib.hid hr; have HF4 := Lib.hid hF4; clear hr hF3 hF4)
        | (at_builtin; refine wpList_add rfl _ _ rfl _ _ _ _ rfl rfl (HR.out _) ?_))
      go_roundw
      case rel => exact ⟨i + 1, by omega, by go_num, by rw [rng_succ]; exact HF4.out⟩
      case measure => simp [intOf]; omega
    · have hiN : i = N := by omega
      subst hiN
      clear hlt hi
      have HC : Hid (Came w d i lock 0 u8 (.slice none 0 0) [] (rng i) wr) := Lib.hid ⟨HF.out.imp fun S hS => HI.of_ti hS.1 lock hS.2, rfl, by rw [rng_len]; rfl, by simp⟩
      clear HF
      go_wp2
      go_loopw [8, 12, 13] (fun lv cv jv wr => ∃ (j : Nat) (cm l : List Int), j ≤ i ∧ jv = .int .i64 j ∧ Came w d i lock j lv cv cm l wr) (fun _ _ jv _ => i - (intOf jv).toNat)
      case atStart => exact ⟨0, [], rng i, Nat.zero_le _, rfl, HC.out⟩
      case round =>
        obtain ⟨j, cm, l, hj, rfl, hC⟩ := hrel
        have HC2 := Lib.hid hC
        clear hC HC
        by_cases hlt : j < i
        · obtain ⟨g, off, rfl, hjo, hcell⟩ := list_old' HA.out (show j < n by omega)
          have hc0 := hcell _ HC2.out.fa.fr
          have hbd := HRg.out order[j] (List.getElem_mem hjo)
          obtain ⟨k0, hk0⟩ : ∃ k0, order[j] = k0 := ⟨_, rfl⟩
          rw [hk0] at hc0 hbd
          clear hcell hk0
          go_upto_if 61 with fail
          go_cut [14] (fun kv wx => wr = wx ∧ kv = .int .i64 (pk k0))
          case first =>
            by_cases hneg : k0 < 0
            · have e1 : IntKind.i64.wrap (-(k0 + 1)) = -(k0 + 1) := IntWalk.i64_in _ (by omega)
              have e2 : pk k0 = -(k0 + 1) := by unfold pk; rw [if_pos hneg]
              go_wp2_with fail
              go_meet
              exact ⟨rfl, by rw [e2]⟩
            · have e2 : pk k0 = k0 := by unfold pk; rw [if_neg hneg]
              go_wp2_with fail
              go_meet
              exact ⟨rfl, by rw [e2]⟩
          case rest =>
          obtain ⟨rfl, rfl⟩ := hcut
          have hp0 : 0 ≤ pk k0 := by unfold pk; split <;> omega
          have hll := HC2.out.ll
          have hpos : (0 : Int) < (l.length : Int) := by omega
          obtain ⟨m, hm⟩ : ∃ m, pk k0 = m := ⟨_, rfl⟩
          rw [hm] at hp0 ⊢
          clear hm hc0 hbd
          have hm0 : 0 ≤ m % (l.length : Int) := Int.emod_nonneg _ (by omega)
          have hm1 : m % (l.length : Int) < (l.length : Int) := Int.emod_lt_of_pos _ hpos
          obtain ⟨kk, hkk⟩ : ∃ kk : Nat, m % (l.length : Int) = kk := ⟨(m % (l.length : Int)).toNat, by omega⟩
          have hkl : kk < l.length := by omega
          obtain ⟨t, ht⟩ : ∃ t, l[kk]? = some t := ⟨_, List.getElem?_eq_getElem hkl⟩
          obtain ⟨gl, _, hix, hct⟩ := own_at HC2.out.fa.rl ht
          have hlen := fun ty W => own_len HC2.out.fa.rl ty W
          obtain ⟨v1, vr, w3, v2, v', w4, hs1, ha1, hs2, ha2, hF4⟩ := HC2.out.fa.cut hkl (by omega)
          obtain ⟨htr, htc⟩ := HC2.out.mem ht
          have hLk := hF4.lock hl0 HW.out htr htc (by omega) (by omega)
          have hem : cm.isEmpty = ((j : Int) == 0) := by
            have := HC2.out.lc
            cases cm with
            | nil => simp at this; subst this; rfl
            | cons a b => simp at this; subst this; simp; omega
          rw [hem] at hLk
          have HLk := Lib.hid hLk
          have HA1 := Lib.hid ha1
          have HA2 := Lib.hid ha2
          have HPm := Lib.hid (HC2.out.perm ht)
          have HRl := rest_len hkl
          have hlc := HC2.out.lc
          clear hem hLk ha1 ha2 hF4 htr htc ht hm1 hm0
          go_wp2_with (first
            | (go_at_call 21; refine HLk.out.mono ?_; rintro e w5 ⟨rfl, hF5⟩; obtain ⟨v5, w6, hr5, hF6⟩ := hF5.addc t (by omega); have HR5 := Lib.hid hr5; have HF6 := Lib.hid hF6; clear hr5 hF6 hF5)
            | (at_builtin; refine wpList_add rfl _ _ rfl _ _ _ _ rfl rfl (HA1.out _) ?_)
            | (at_builtin; refine wpList_add rfl _ _ rfl _ _ _ _ rfl rfl (HA2.out _) ?_)
            | (at_builtin; refine wpList_add rfl _ _ rfl _ _ _ _ rfl rfl (HR5.out _) ?_))
          go_roundw
          case rel => exact ⟨j + 1, cm ++ [t], rest_ l kk, by omega, by go_num, ⟨HF6.out, by simp; omega, by omega, HPm.out⟩⟩
          case measure => simp [intOf]; omega
        · have hji : j = i := by omega
          subst hji
          clear hlt hj
          have hll := HC2.out.ll
          have hl0' : l = [] := List.eq_nil_of_length_eq_zero (by omega)
          have hlc := HC2.out.lc
          have HG : Hid (FA w d (fun S => HI S j lock (cm.drop 0) (j + j)) u8 l u12 cm wr) := Lib.hid HC2.out.fa
          have HM := Lib.hid (show ∀ x ∈ cm, (Lit.int .i64 x).wf = true from fun x hx => by
            have h1 := (HC2.out.pm.mem_iff).1 (List.mem_append_left _ hx)
            obtain ⟨k, hk, rfl⟩ := rng_mem.1 h1
            exact wf64 (by omega) (by omega))
          clear HC2 hl0' hll
          go_wp2
          go_loopw [19] (fun kv wr => ∃ k : Nat, k ≤ j ∧ kv = .int .i64 k ∧ FA w d (fun S => HI S j lock (cm.drop k) (j + j)) u8 l u12 cm wr) (fun kv _ => j - (intOf kv).toNat)
          case atStart => exact ⟨0, Nat.zero_le _, rfl, HG.out⟩
          case round =>
            obtain ⟨k, hk, rfl, hG⟩ := hrel
            have HG2 := Lib.hid hG
            clear hG HG
            by_cases hlt : k < j
            · obtain ⟨t, ht⟩ : ∃ t, cm[k]? = some t := ⟨_, List.getElem?_eq_getElem (by omega)⟩
              have hdr : cm.drop k = t :: cm.drop (k + 1) := by
                obtain ⟨hk', rfl⟩ := List.getElem?_eq_some_iff.1 ht
                exact List.drop_eq_getElem_cons hk'
              have hG3 := HG2.out
              rw [hdr] at hG3
              have HG3 := Lib.hid hG3
              obtain ⟨gc, hgc, hix, hct⟩ := own_at HG2.out.rc ht
              have hho := (HG3.out.keep ((Fr.refl No wr).drew)).holder HW.out
              have hrd := (HG3.out.keep ((Fr.refl No wr).drew)).ready
              have htw := HM.out t (List.mem_of_getElem? ht)
              have HIX := Lib.hid hix
              have HHO := Lib.hid hho
              have HRD := Lib.hid hrd
              have HTW := Lib.hid htw
              have hdl : (cm.drop (k + 1)).length + (k + 1) = j := by rw [List.length_drop]; omega
              have hlt' := (World.ownsRow.lt HG3.out.rc gc hgc).2
              clear hho hrd htw hG3 hdr ht HG2 hgc
              go_upto_region 33 with fail
              go_cut [123] (fun bv wx => bv = .bool false ∧ FA w d (fun S => HI S j lock (t :: cm.drop (k + 1)) (j + j)) u8 l u12 cm wx ∧ Fr No wr wx)
              case first =>
                go_region_with (first
                  | (go_at_call 16; refine HHO.out.mono ?_; rintro e wx ⟨rfl, rfl⟩)
                  | (go_at_call 12; refine HRD.out.mono ?_; rintro e wx ⟨g, c, m, rfl, hm, hF, hfr⟩; obtain rfl : m = k + 1 := (by simp only [List.tail_cons] at hm; omega); have HF := Lib.hid hF; have HFr := Lib.hid hfr; clear hm hF hfr))
                all_goals (go_simp; go_wp2_with fail)
                all_goals go_meet
                all_goals exact ⟨by rw [show IntKind.i64.wrap ((k : Int) + 1) = (k : Int) + 1 from IntWalk.i64_in _ (by omega)]; simp, HF.out, ((Fr.refl No wr).drew).trans HFr.out fun _ _ hj => hj⟩
              case rest =>
              obtain ⟨rfl, hF, hfr⟩ := hcut
              have HF := Lib.hid hF
              have hct2 : wc.cell? ⟨gc, k, none⟩ = some (.int .i64 t) := by
                rw [World.cell?_of_block (hfr.block gc hlt' id)]; exact hct
              clear hF hfr hct HHO HRD HG3
              go_wp2_with (go_at_call 22; refine (HF.out.unlock hl0 HW.out HTW.out).mono ?_; rintro e w5 ⟨rfl, hF5⟩; have HF5 := Lib.hid hF5; clear hF5)
              go_roundw
              case rel => exact ⟨k + 1, by omega, by go_num, HF5.out⟩
              case measure => simp [intOf]; omega
            · have hkj : k = j := by omega
              have hG3 := HG2.out
              rw [hkj, List.drop_of_length_le (by omega)] at hG3
              have HG3 := Lib.hid hG3
              clear hG3 HG2
              go_wp2_with (first
                | (go_at_call 16; refine (HG3.out.holder HW.out).mono ?_; rintro e w5 ⟨rfl, rfl⟩)
                | (go_at_call 14; refine HG3.out.stuck.mono ?_; rintro e w5 ⟨rfl, hF5⟩; have HF5 := Lib.hid hF5; clear hF5))
              go_ret
              exact ⟨rfl, bel_of HF5.out (Nat.le_refl _)⟩

end Go.Proofs.Ytnonidoeakhfdaa
