/- The chapter's examples. -/
import Derived.Test.YtlpglijikmnopaaGreatDoorUG29
import Derived.Test.YtlpglijikmnopaaGreatDoorUG28
import Derived.Test.YtlpglijikmnopaaGreatDoorUGN
namespace Go.Proofs.YtlpglijikmnopaaGreatDoor
open Go.RowKit Go.Maps Go.Sort Go.Proofs
set_option linter.unusedVariables false

def grpA (s : Int) (fs : List Fc) : List Rw := grpL takeA (newA 1) (keyedL (fun _ => true) (listB s) fs)
def aw1 : List Rw := grpA 1 smallF
def aw3 : List Rw := grpA 3 smallF
def awr : List Rw := grpL mergeA zA (regL (listB 3) (listB 2) aw3)
def awm : List Rw := grpL mergeA zA (pairs (aw1 ++ aw1))
theorem aw_facts : aw1.length = 2 ∧ aw3.length = 3 ∧ awr.length = 2 ∧ awm.length = 2 ∧ sameRs aw1 aw1 = true ∧ keepL (fun _ => true) (listB 1) aw1 = aw1 ∧ aw3.any (badK (listB 3).length) = false := by decide +kernel
theorem aw_head : (aw1[0]?).map Rw.key = some [[120]] ∧ (aw1[0]?).map (fun r => r.acc.count) = some 2 ∧ (awr[0]?).map (fun r => r.acc.count) = some 2 := by decide +kernel
theorem small_fok : ∀ f ∈ smallF, Fok f := by
  intro f hf t ht
  have : ∀ f ∈ smallF, ∀ t ∈ f.dims, t.length ≤ 2097152 := by decide +kernel
  exact this f hf t ht
theorem aw_eq (s : Int) : (grpA s smallF) = grpL takeA (newA 1) (keyedL (fun _ => true) (listB s) smallF) := rfl
theorem aw_rok1 : Rok aw1 := by
  have e : keyedL (fun _ => true) (listB 1) smallF = kyd (listB 1) smallF := by decide +kernel
  unfold aw1 grpA
  rw [e]
  exact rok_grp 1 (by decide) small_fok (by unfold Mok i64'; decide +kernel)
theorem aw_rok3 : Rok aw3 := by
  have e : keyedL (fun _ => true) (listB 3) smallF = kyd (listB 3) smallF := by decide +kernel
  unfold aw3 grpA
  rw [e]
  exact rok_grp 1 (by decide) small_fok (by unfold Mok i64'; decide +kernel)
theorem rok_app {l m : List Rw} (h : Rok l) (k : Rok m) : Rok (l ++ m) := fun r hr => by
  rcases List.mem_append.1 hr with h1 | h1
  · exact h r h1
  · exact k r h1
/-- A call that tells rows, wherever they lie. -/
def TellsW (l : List Rw) (w : World) (e : Ending) (w' : World) : Prop := ∃ A n c, e = .returned (.slice A n c) ∧ n = l.length ∧ RR (fun k => k < w'.heap.size) w' (.slice A n c) l ∧ Fr No w w'
theorem TellsH.w {b : Nat} {l : List Rw} {w : World} {e : Ending} {w' : World} (h : TellsH b l w e w') : TellsW l w e w' := by
  obtain ⟨A, n, c, e1, e2, hr, hf⟩ := h
  exact ⟨A, n, c, e1, e2, hr.rr.lt_, hf⟩
theorem hash_w {fs : List Fc} {fv : Value} {s meas : Int} (w : World) (h : FR (fun k => k < w.heap.size) w fv fs) (hok : ∀ f ∈ fs, Fok f) (hl : fs.length < 4000000) (hp : Pv w) : Calls Tryz.prog 13 #[fv, .pointer none, .int .i64 s, .int .i64 meas] w (TellsW (grpL takeA (newA meas) (keyedL (fun _ => true) (listB s) fs)) w) :=
  (hash_any w rfl h (meant_nil _ _) ⟨none, rfl⟩ hok hl hp).mono fun e w' h => h.w
theorem sort_w {fs : List Fc} {fv : Value} {s meas : Int} (w : World) (h : FR (fun k => k < w.heap.size) w fv fs) (hok : ∀ f ∈ fs, Fok f) (hl : fs.length < 4000000) : Calls Tryz.prog 14 #[fv, .pointer none, .int .i64 s, .int .i64 meas] w (TellsW (grpL takeA (newA meas) (keyedL (fun _ => true) (listB s) fs)) w) :=
  (sort_any w rfl h (meant_nil _ _) ⟨none, rfl⟩ hok hl).mono fun e w' h => h.w
theorem merge_w {a b : List Rw} {av bv : Value} (w : World) (ha : RR (fun k => k < w.heap.size) w av a) (hb : RR (fun k => k < w.heap.size) w bv b) (hok : Rok (a ++ b)) (hl : a.length + b.length < 4000000) (hp : Pv w) : Calls Tryz.prog 20 #[av, bv] w (TellsW (grpL mergeA zA (pairs (a ++ b))) w) :=
  (mergeR_any w rfl ha hb hok hl hp).mono fun e w' h => h.w
theorem filter_w {l : List Rw} {av : Value} {f : Int} (w : World) (ha : RR (fun k => k < w.heap.size) w av l) (hok : Rok l) (hl : l.length < 4000000) : Calls Tryz.prog 22 #[av, .int .i64 f, .pointer none] w (TellsW (keepL (fun _ => true) (listB f) l) w) :=
  (filterR_any w rfl ha hok hl (meant_nil _ _) ⟨none, rfl⟩).mono fun e w' h => h.w
def TellsWg (l : List Rw) (w : World) (e : Ending) (w' : World) : Prop := ∃ A n c, e = .returned (.tuple #[.slice A n c, .int .i64 0]) ∧ n = l.length ∧ RR (fun k => k < w'.heap.size) w' (.slice A n c) l ∧ Fr No w w'
theorem regroup_w {l : List Rw} {av : Value} {f t : Int} (w : World) (ha : RR (fun k => k < w.heap.size) w av l) (hok : Rok l) (hl : l.length < 4000000) (hp : Pv w)
    (hf : isSetB f = true) (hz : bits BinOp.andNot IntKind.i64 t f = 0) (hsub : ∀ x ∈ listB t, x ∈ listB f) (hkl : l.any (badK (listB f).length) = false) :
    Calls Tryz.prog 18 #[av, .int .i64 f, .int .i64 t] w (TellsWg (grpL mergeA zA (regL (listB f) (listB t) l)) w) :=
  (regroup_any w rfl ha hok hl hp hf hz hsub hkl).mono fun e w' h => by
    obtain ⟨A, n, c, e1, e2, hr, hf⟩ := h
    exact ⟨A, n, c, e1, e2, hr.rr.lt_, hf⟩
theorem RR.no_lt {w w' : World} {v : Value} {l : List Rw} (h : RR (fun k => k < w.heap.size) w v l) (f : Fr No w w') : RR (fun k => k < w'.heap.size) w' v l := (h.no f).lt_
theorem FR.no_lt {w w' : World} {v : Value} {l : List Fc} (h : FR (fun k => k < w.heap.size) w v l) (f : Fr No w w') : FR (fun k => k < w'.heap.size) w' v l := (h.no f).lt_
theorem Fr.tr {a b c : World} (h : Fr No a b) (k : Fr No b c) : Fr No a c := h.trans k fun _ _ h => h
theorem head_at {l : List Rw} {α : Type} {g : Rw → α} {x : α} (h : (l[0]?).map g = some x) : ∃ h0 : 0 < l.length, g l[0] = x := by
  cases l with
  | nil => cases h
  | cons r l => exact ⟨by simp, by simpa using h⟩
theorem hash_a (w' : World) (v : Value) (h : FR (fun k => k < w'.heap.size) w' v smallF) (hp : Pv w') : Calls Tryz.prog 13 #[v, .pointer none, .int .i64 1, .int .i64 1] w' (TellsW aw1 w') := by
  unfold aw1 grpA
  exact hash_w w' h small_fok (by decide) hp
theorem sort_a (w' : World) (v : Value) (h : FR (fun k => k < w'.heap.size) w' v smallF) : Calls Tryz.prog 14 #[v, .pointer none, .int .i64 3, .int .i64 1] w' (TellsW aw3 w') := by
  unfold aw3 grpA
  exact sort_w w' h small_fok (by decide)
theorem regroup_a (w' : World) (v : Value) (h : RR (fun k => k < w'.heap.size) w' v aw3) (hp : Pv w') : Calls Tryz.prog 18 #[v, .int .i64 3, .int .i64 2] w' (TellsWg awr w') := by
  unfold awr
  exact regroup_w w' h aw_rok3 (by rw [aw_facts.2.1]; decide) hp (by decide) (by kernel_rfl) (by decide) aw_facts.2.2.2.2.2.2
theorem merge_a (w' : World) (v : Value) (h : RR (fun k => k < w'.heap.size) w' v aw1) (hp : Pv w') : Calls Tryz.prog 20 #[v, v] w' (TellsW awm w') := by
  unfold awm
  exact merge_w w' h h (rok_app aw_rok1 aw_rok1) (by rw [aw_facts.1]; decide) hp
theorem aw1_at {K : Nat → Prop} {w : World} {A : Option Addr} {n c : Nat} (h : RR K w (.slice A n c) aw1) : ∃ g off g2 o2 ck, A = some ⟨g, off, none⟩ ∧ w.cell? ⟨g, off, none⟩ = some (.slice (some ⟨g2, o2, none⟩) 1 ck) ∧ w.cell? ⟨g, off + 1, none⟩ = some (.int .i64 2) ∧ w.cell? ⟨g2, o2, none⟩ = some (sv [120]) := by
  obtain ⟨k1, k2, k3⟩ := aw_head
  obtain ⟨p1, q1⟩ := head_at k1
  obtain ⟨_, q2⟩ := head_at k2
  obtain ⟨g1, o1, kv, pv, rfl, -, -, d0, d1, -, hk1, -⟩ := h.at_ p1
  rw [q1] at hk1
  obtain ⟨Ak, ck, rfl, -, -⟩ := hk1.form
  obtain ⟨g2, o2, rfl, -, -, d2, -⟩ := hk1.at_ (j := 0) (by decide)
  rw [q2] at d1
  simp only [Nat.zero_mul, Nat.add_zero] at d0 d1 d2
  exact ⟨g1, o1, g2, o2, ck, rfl, d0, d1, d2⟩
theorem awr_at {K : Nat → Prop} {w : World} {A : Option Addr} {n c : Nat} (h : RR K w (.slice A n c) awr) : ∃ g off, A = some ⟨g, off, none⟩ ∧ w.cell? ⟨g, off + 1, none⟩ = some (.int .i64 2) := by
  obtain ⟨k1, k2, k3⟩ := aw_head
  obtain ⟨p3, q3⟩ := head_at k3
  obtain ⟨g1, o1, kv, pv, rfl, -, -, d0, d1, -, hk1, -⟩ := h.at_ p3
  rw [q3] at d1
  simp only [Nat.zero_mul, Nat.add_zero] at d1
  exact ⟨g1, o1, rfl, d1⟩
set_option maxRecDepth 100000 in
set_option maxHeartbeats 2000000 in
theorem awake_any (w : World) (hp : Pv w) : Calls Tryz.prog 10 #[] w (TellsB true w) := by
  obtain ⟨l1, l3, lr, lm, hs, hk, hb⟩ := aw_facts
  have HS := Lib.hid (fun w' => small_any w')
  have HH := Lib.hid hash_a
  have HT := Lib.hid sort_a
  have HR := Lib.hid regroup_a
  have HM := Lib.hid merge_a
  have HFi := Lib.hid (fun (w' : World) (v : Value) (h : RR (fun k => k < w'.heap.size) w' v aw1) => filter_w (f := 1) w' h aw_rok1 (by rw [l1]; decide))
  have HSa := Lib.hid (fun (w' : World) (v : Value) (h : RR (fun k => k < w'.heap.size) w' v aw1) => sameR_any w' h h)
  have HC := Lib.hid (fun (w' : World) (v u : Value) (a : KR (fun k => k < w'.heap.size) w' v [[97]]) (b : KR (fun k => k < w'.heap.size) w' u [[98]]) => compare_x w' a b)
  have hcm : cmpK [[97]] [[98]] = -1 := by decide +kernel
  rw [hcm] at HC
  rw [hs] at HSa
  rw [hk] at HFi
  have HP := Lib.hid hp
  have L1 := Lib.hid l1
  have L3 := Lib.hid l3
  have LR := Lib.hid lr
  have LM := Lib.hid lm
  clear hcm hp l1 l3 lr lm hs hk hb
  go_enter Tryz.func10, Tryz.ntmps10
  go_upto_region 2 with (first
    | (go_at_call 30; refine (HS.out _).mono ?_; rintro e w1 ⟨A1, n1, c1, rfl, hn1, hf1, f1⟩; have HF1 := Lib.hid hf1; have H1 := Lib.hid f1; clear hf1 f1 hn1)
    | (go_at_call 13; refine (HH.out _ _ HF1.out (HP.out.no H1.out)).mono ?_; rintro e w2 ⟨A2, n2, c2, rfl, hn2, hr2, f2⟩; have HR2 := Lib.hid hr2; have H2 := Lib.hid (H1.out.tr f2); have HN2 := Lib.hid (hn2.trans L1.out); clear hr2 f2 hn2))
  clear HF1
  go_upto_region 3 with (first
    | (go_at_call 30; refine (HS.out _).mono ?_; rintro e w3 ⟨A3, n3, c3, rfl, hn3, hf3, f3⟩; have HF3 := Lib.hid hf3; have H3 := Lib.hid (H2.out.tr f3); have HR3 := Lib.hid (HR2.out.no_lt f3); clear hf3 f3 hn3)
    | (go_at_call 14; refine (HT.out _ _ HF3.out).mono ?_; rintro e w4 ⟨A4, n4, c4, rfl, hn4, hr4, f4⟩; have HR4 := Lib.hid hr4; have HRA := Lib.hid (HR3.out.no_lt f4); have H4 := Lib.hid (H3.out.tr f4); have HN4 := Lib.hid (hn4.trans L3.out); clear hr4 f4 hn4))
  obtain rfl := HN2.out
  obtain rfl := HN4.out
  clear HR2 HR3 HF3 HN2 HN4
  go_wp2_with (first
    | (go_at_call 18; refine (HR.out _ _ HR4.out (HP.out.no H4.out)).mono ?_; rintro e w5 ⟨A5, n5, c5, rfl, hn5, hr5, f5⟩; have e5 := hn5.trans LR.out; clear hn5; subst e5; have HRB := Lib.hid (HRA.out.no_lt f5); have H5 := Lib.hid (H4.out.tr f5); obtain ⟨g1, o1, g2, o2, ck, rfl, d0, d1, d2⟩ := aw1_at HRB.out; obtain ⟨g3, o3, rfl, d3⟩ := awr_at hr5; clear hr5 f5)
    | (go_at_call 25; refine (HC.out _ _ _ (KR.blk1 ((Blk.new w5 9 #[sv [97]]).no ((Fr.refl No _).alloc _)) (by decide)).lt_ (KR.blk1 (blk_at1 w5 _ 9 #[sv [98]]) (by decide)).lt_).mono ?_; rintro e w7 ⟨rfl, h7⟩; have F7 : Hid (Fr No w5 w7) := Lib.hid (by rw [← h7]; exact ((Fr.refl No w5).alloc _).alloc _); clear h7)
    | (go_at_call 24; refine (HSa.out _ _ (HRB.out.no_lt F7.out)).mono ?_; rintro e w8 ⟨rfl, f8⟩; have F8 := Lib.hid (F7.out.tr f8); clear f8)
    | (go_at_call 20; refine (HM.out _ _ (HRB.out.no_lt F8.out) (HP.out.no (H5.out.tr F8.out))).mono ?_; rintro e w9 ⟨A9, n9, c9, rfl, hn9, hr9, f9⟩; have e9 := hn9.trans LM.out; clear hn9; subst e9; have F9 := Lib.hid (F8.out.tr f9); clear hr9 f9)
    | (go_at_call 22; refine (HFi.out _ _ (HRB.out.no_lt F9.out)).mono ?_; rintro e w10 ⟨A10, n10, c10, rfl, hn10, hr10, f10⟩; have e10 := hn10.trans L1.out; clear hn10; subst e10; have F10 := Lib.hid (H5.out.tr (F9.out.tr f10)); clear hr10 f10))
  go_ret
  exact ⟨rfl, F10.out⟩
end Go.Proofs.YtlpglijikmnopaaGreatDoor
