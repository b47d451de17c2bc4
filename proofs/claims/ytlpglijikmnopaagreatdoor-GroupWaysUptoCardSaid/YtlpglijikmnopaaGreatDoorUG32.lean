/- GroupLess walked. -/
import Derived.Test.YtlpglijikmnopaaGreatDoorUG30
namespace Go.Proofs.YtlpglijikmnopaaGreatDoor
open Go.RowKit Go.Maps Go.Sort Go.Proofs
set_option linter.unusedVariables false

theorem sound_fok {fs : List Fc} (h : ∀ f ∈ fs, Fok f) : ∀ f ∈ soundL fs, Fok f := fun f hf => h f (soundL_mem hf).1
theorem sound_len (fs : List Fc) : (soundL fs).length ≤ 200 := soundP_len fs 200
/-- The groups of facts that have all of the three dimensions. -/
def grp2 (n : Nat) (l : List Fc) : List Rw := grpL takeA (newA 2) (kyd (listB (n : Int)) l)
theorem grp2_len (n : Nat) (l : List Fc) : (grp2 n l).length ≤ l.length := by
  have := grp_len takeA (newA 2) (kyd (listB (n : Int)) l)
  rw [kyd_len] at this
  exact this
theorem grp2_rok {n : Nat} {l : List Fc} (hok : ∀ f ∈ l, Fok f) (hm : Mok l) : Rok (grp2 n l) := rok_grp 2 (Nat.le_trans (listB_len _) (by decide)) hok hm
theorem hash_g {l : List Fc} {fv : Value} {n : Nat} (w : World) (hn : n < 8) (h : FR (fun k => k < w.heap.size) w fv l) (hok : ∀ f ∈ l, Fok f) (ht : Thr l) (hl : l.length < 4000000) (hp : Pv w) : Calls Tryz.prog 13 #[fv, .pointer none, .int .i64 (n : Nat), .int .i64 2] w (TellsW (grp2 n l) w) := by
  unfold grp2
  rw [← keyed_all hn ht]
  exact hash_w w h hok hl hp
theorem sort_g {l : List Fc} {fv : Value} {n : Nat} (w : World) (hn : n < 8) (h : FR (fun k => k < w.heap.size) w fv l) (hok : ∀ f ∈ l, Fok f) (ht : Thr l) (hl : l.length < 4000000) : Calls Tryz.prog 14 #[fv, .pointer none, .int .i64 (n : Nat), .int .i64 2] w (TellsW (grp2 n l) w) := by
  unfold grp2
  rw [← keyed_all hn ht]
  exact sort_w w h hok hl
/-- Groups of a set cut to a part of it. -/
theorem regroup_g {l : List Fc} {av : Value} {n m : Nat} (w : World) (hn : n < 8) (hm8 : m < 8) (hmn : m &&& n = m) (ha : RR (fun k => k < w.heap.size) w av (grp2 n l)) (hok : ∀ f ∈ l, Fok f) (hm : Mok l) (ht : Thr l) (hl : l.length < 4000000) (hp : Pv w) : Calls Tryz.prog 18 #[av, .int .i64 (n : Nat), .int .i64 (m : Nat)] w (TellsWg (grp2 m l) w) := by
  obtain ⟨h1, h2⟩ := sub_and hn hm8 hmn
  have e : grpL mergeA zA (regL (listB (n : Int)) (listB (m : Int)) (grp2 n l)) = grp2 m l := by
    have := regroup_grp 2 (fun k => namesL k (plcL (listB (n : Int)) (listB (m : Int)))) (eok_kyd (d := listB (n : Int)) hm)
    rw [kyd_cut hn ht h2] at this
    exact this
  rw [← e]
  exact regroup_w w ha (grp2_rok hok hm) (Nat.lt_of_le_of_lt (grp2_len n l) hl) hp (set_fin hn) h1 h2 (bad_grp 2 hn ht)
set_option maxRecDepth 100000 in
set_option maxHeartbeats 1000000 in
theorem groupLess_any {fs : List Fc} {v : Value} {s p : Int} (w : World) (h : FR (fun k => k < w.heap.size) w v fs) (hok : ∀ f ∈ fs, Fok f) (hp : Pv w) : Calls Tryz.prog 6 #[v, .int .i64 s, .int .i64 p] w (TellsB true w) := by
  obtain ⟨n, hn, b1⟩ := and7 s
  obtain ⟨q, m, hm8, b2, b3, hmn⟩ := sub7 hn p
  have hL := sound_len fs
  have HA := Lib.hid (awake_any w hp)
  have HS := Lib.hid (fun (w' : World) (f : Fr No w w') => sound_any w' (h.no_lt f))
  have hm : Mok (soundL fs) := fun f hf => h.mok f (soundL_mem hf).1
  have HH := Lib.hid (fun (w' : World) (v' : Value) (h' : FR (fun k => k < w'.heap.size) w' v' (soundL fs)) (hp' : Pv w') => hash_g (n := n) w' hn h' (sound_fok hok) (thr_sound fs) (by omega) hp')
  have HT := Lib.hid (fun (w' : World) (v' : Value) (h' : FR (fun k => k < w'.heap.size) w' v' (soundL fs)) => sort_g (n := m) w' hm8 h' (sound_fok hok) (thr_sound fs) (by omega))
  have HR := Lib.hid (fun (w' : World) (v' : Value) (h' : RR (fun k => k < w'.heap.size) w' v' (grp2 n (soundL fs))) (hp' : Pv w') => regroup_g w' hn hm8 hmn h' (sound_fok hok) hm (thr_sound fs) (by omega) hp')
  have HSa := Lib.hid (fun (w' : World) (v' u' : Value) (h1 : RR (fun k => k < w'.heap.size) w' v' (grp2 m (soundL fs))) (h2 : RR (fun k => k < w'.heap.size) w' u' (grp2 m (soundL fs))) => sameR_any w' h1 h2)
  rw [(sameRs_iff _ _).2 rfl] at HSa
  have HP := Lib.hid hp
  obtain ⟨A0, nn, c0, rfl, -⟩ := row_form h
  obtain ⟨L, hLL⟩ : ∃ L, soundL fs = L := ⟨_, rfl⟩
  rw [hLL] at HS HH HT HR HSa
  clear h hok hp hL hm hLL hmn hm8 hn
  go_enter Tryz.func6, Tryz.ntmps6
  go_upto_region 2 with (go_at_call 10; refine HA.out.mono ?_; rintro e w1 ⟨rfl, f1⟩; have H1 := Lib.hid f1; clear f1)
  go_upto_region 3 with (go_at_call 27; refine (HS.out _ H1.out).mono ?_; rintro e w2 ⟨A2, n2, c2, rfl, hn2, hf2, f2⟩; have HF2 := Lib.hid hf2; have H2 := Lib.hid (H1.out.tr f2); clear hf2 f2 hn2)
  go_upto_region 5 with fail
  go_upto_region 6 with (first
    | (go_at_call 13; refine (HH.out _ _ HF2.out (HP.out.no H2.out)).mono ?_; rintro e w3 ⟨A3, n3, c3, rfl, hn3, hr3, f3⟩; have HR3 := Lib.hid hr3; have HF3 := Lib.hid (HF2.out.no_lt f3); have H3 := Lib.hid (H2.out.tr f3); clear hr3 f3 hn3)
    | (go_at_call 18; refine (HR.out _ _ HR3.out (HP.out.no H3.out)).mono ?_; rintro e w4 ⟨A4, n4, c4, rfl, hn4, hr4, f4⟩; have HR4 := Lib.hid hr4; have HF4 := Lib.hid (HF3.out.no_lt f4); have H4 := Lib.hid (H3.out.tr f4); clear hr4 f4 hn4))
  go_wp2_with (first
    | (go_at_call 14; refine (HT.out _ _ HF4.out).mono ?_; rintro e w5 ⟨A5, n5, c5, rfl, hn5, hr5, f5⟩; have HR5 := Lib.hid hr5; have HR6 := Lib.hid (HR4.out.no_lt f5); have H5 := Lib.hid (H4.out.tr f5); clear hr5 f5 hn5)
    | (go_at_call 24; refine (HSa.out _ _ _ HR6.out HR5.out).mono ?_; rintro e w6 ⟨rfl, f6⟩; have H6 := Lib.hid (H5.out.tr f6); clear f6))
  go_ret
  exact ⟨rfl, H6.out⟩
end Go.Proofs.YtlpglijikmnopaaGreatDoor
