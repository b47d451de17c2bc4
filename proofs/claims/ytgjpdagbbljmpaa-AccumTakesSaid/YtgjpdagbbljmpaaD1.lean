/- A row and the spare element behind it. -/
import Derived.Test.YtgjpdagbbljmpaaB11
import Derived.Test.YtgjpdagbbljmpaaB8
import Derived.RegionTactic
namespace Go.Proofs.Ytgjpdagbbljmpaa
open Go.RowKit Go.Maps Go.Sort
set_option linter.unusedVariables false

def p77 : Pt := ⟨false, ⟨0, 0⟩, 77, 0⟩
theorem p77_ok : p77.ok := by unfold p77 Pt.ok Sm.ok i64'; simp only; omega
/-- Appended to nil. -/
theorem app_nil {K : Nat → Prop} {w : World} {v : Value} {l : List Pt} (h : PR K w v l) (hl : l.length * 40 ≤ 140737488355328) (B : Nat) (hB : B ≤ w.heap.size) :
    ∃ v' w', (∀ ty, (Builtin.append_ #[37, 37] ty #[.slice none 0 0, v]).run Try.prog w = .ok v' w') ∧ w'.ownsRow B 46 5 v' l.length (l.flatMap ptL) ∧ Fr No w w' := by
  rcases h with ⟨rfl, rfl⟩ | ⟨a, c, rfl, hc1, hc2, h4⟩
  · exact ⟨.slice none 0 0, w, fun ty => by kernel_rfl, ⟨by simp, .inl ⟨rfl, rfl⟩⟩, Fr.refl _ _⟩
  · have h' : PR K w (.slice (some a) l.length c) l := .inr ⟨a, c, rfl, hc1, hc2, h4⟩
    have ho : w.ownsRow B 46 5 (.slice none 0 0) ([] : List Pt).length [] := ⟨by simp, .inl ⟨rfl, rfl⟩⟩
    obtain ⟨v', w', hrun, how, hgr, -, hat⟩ := append_parts [] ho rfl hB h' (by simp; omega)
    refine ⟨v', w', hrun, by simpa using how, ?_⟩
    exact (Fr.refl No w).grown hgr (fun k hk hlt => by simp [Value.ownBlock] at hk)
theorem PO.cut {b : Nat} {w : World} {A : Option Addr} {c n : Nat} {l : List Pt} {p : Pt} (h : PO b w (.slice A n c) (l ++ [p])) (hn : n = l.length + 1) : PO b w (.slice A l.length c) l ∧ ∃ g cs, A = some ⟨g, 0, none⟩ ∧ b ≤ g ∧ Blk w g 46 cs ∧ Five w g (l.length * 5) p ∧ l.length < c ∧ c ≤ maxLen := by
  rcases h with ⟨_, h⟩ | ⟨g, c', cs, h1, h2, h3, h4, h5, h6⟩
  · simp at h
  · injection h1 with e1 e2 e3
    subst e1; subst e3
    rw [List.length_append, List.length_singleton] at h2
    have hl := h6 l.length (by simp)
    simp only [List.getElem_append_right (Nat.le_refl _), Nat.sub_self, List.getElem_singleton] at hl
    have key : ∀ k, k < 5 → w.cell? ⟨g, l.length * 5 + k, none⟩ = (ptL p)[k]? := fun k hk => by rw [h5.cell]; exact hl k hk
    refine ⟨.inr ⟨g, c, cs, rfl, by omega, h3, h4, h5, fun j hj k hk => ?_⟩, g, cs, rfl, h4, h5, ⟨key 0 (by decide), key 1 (by decide), key 2 (by decide), key 3 (by decide), key 4 (by decide)⟩, by omega, h3⟩
    have := h6 j (by simp; omega) k hk
    rw [List.getElem_append_left hj] at this
    exact this
set_option maxRecDepth 100000 in
set_option maxHeartbeats 400000 in
theorem copied_any {K : Nat → Prop} (cnt : Int) (l : List Pt) (v : Value) (w : World) (h : PR K w v l) (hl : Lok l) :
    Calls Try.prog 21 #[.agg #[.int .i64 cnt, v]] w fun e w' => ∃ A c, e = .returned (.tuple #[.agg #[.int .i64 cnt, .slice A l.length c], .slice A (l.length + 1) c]) ∧ PO w.heap.size w' (.slice A (l.length + 1) c) (l ++ [p77]) ∧ Fr No w w' := by
  obtain ⟨b, hb⟩ : ∃ b, w.heap.size = b := ⟨_, rfl⟩
  obtain ⟨w1, hw1⟩ : ∃ w1, (w.alloc (.cells #[.int .i64 cnt, v] 39)).alloc (.cells #[.int .i64 0, .slice none 0 0] 39) = w1 := ⟨_, rfl⟩
  have f1 : Fr No w w1 := by rw [← hw1]; exact ((Fr.refl No w).alloc _).alloc _
  have hx : Blk w1 b 39 #[.int .i64 cnt, v] := by rw [← hw1, ← hb]; exact (Blk.new w 39 _).no ((Fr.refl No _).alloc _)
  have hr : Blk w1 (b + 1) 39 #[.int .i64 0, .slice none 0 0] := by rw [← hw1, ← hb]; exact blk_at1 w _ 39 _
  have hs1 : w1.heap.size = b + 2 := by rw [← hw1, ← hb]; simp
  have h40 : l.length * 40 ≤ 140737488355328 := by have := hl.2; omega
  obtain ⟨v2, w2, hrun2, how2, f2⟩ := app_nil (h.no f1) h40 (b + 2) (by omega)
  have h41 : (l.length + 1) * 40 ≤ 140737488355328 := by have := hl.2; omega
  obtain ⟨A, c, w3, hrun3, how3, f3⟩ := app_one how2 (by have := f2.size; omega) p77 h41
  have hf3 : Fr No w1 w3 := (f2.any.trans f3 fun _ _ h => h).mono fun k hk e => by omega
  have HR2 := Lib.hid hrun2
  have HR3 := Lib.hid hrun3
  obtain ⟨A', ca, rfl, hca1, hca2⟩ := h.form
  obtain ⟨N, hN⟩ : ∃ N, l.length = N := ⟨_, rfl⟩
  have hpo : PO (b + 2) w3 (.slice A (l.length + 1) c) (l ++ [p77]) := PO.of_own (by simpa using how3)
  obtain ⟨-, g, cs, rfl, hgb, hgk, h5, hNc, hcm⟩ := hpo.cut rfl
  rw [hN, show ptA p77 = #[.bool false, .int .i64 0, .int .u64 0, .int .i64 77, .int .i64 0] from rfl] at HR3
  rw [hN] at hpo
  have HPO := Lib.hid hpo
  rw [hN] at hNc
  have hx3 := hx.no hf3
  have hr3 := hr.no hf3
  obtain ⟨N1, hN1⟩ : ∃ N1, N + 1 = N1 := ⟨_, rfl⟩
  unfold maxLen at hcm
  have e1 : IntKind.i64.wrap ((N1 : Int) - 1) = (N : Int) := by rw [IntKind.wrap_i64]; omega
  have HF3 : Hid (Fr No w w3) := Lib.hid (f1.trans hf3 fun _ _ h => h)
  have HW1 := Lib.hid hw1
  have HB := Lib.hid hb
  have HRB := Lib.hid hr3
  have x1 := hx.cell 1
  have y0 : w3.drew.cell? ⟨b, 0, none⟩ = some (.int .i64 cnt) := hx3.cell 0
  rw [hN1] at HR3 HPO
  have hNc' : N ≤ c := by omega
  rw [hN, hN1]
  rw [hN] at x1 HW1 HR2
  clear h hl hb hw1 f1 hx hr hs1 h40 hrun2 how2 f2 h41 hrun3 how3 f3 hf3 hpo hx3 hr3 hgk h5 hN hca1 hca2
  go_enter Try.func21, Try.ntmps21
  go_upto_region 1 with fail
  rw [HW1.out, HB.out]
  go_upto_region 3 with (at_builtin; refine wpList_add rfl _ _ _ _ rfl _ _ _ _ rfl rfl (HR2.out _) ?_)
  clear x1
  go_upto_region 4 with (at_builtin; refine wpList_add rfl _ _ _ _ rfl _ _ _ _ rfl rfl (HR3.out _) ?_)
  obtain ⟨r0, r1, z0, z1⟩ : w3.drew.cell? ⟨b + 1, 0, none⟩ = some (.int .i64 0) ∧ w3.drew.cell? ⟨b + 1, 1, none⟩ = some (.slice none 0 0) ∧ w3.drew.frozen? ⟨b + 1, 0, none⟩ = false ∧ w3.drew.frozen? ⟨b + 1, 1, none⟩ = false := blk2 HRB.out
  obtain ⟨t0, t1, s0, s1⟩ := blk2 HRB.out
  go_region
  go_wp2_with fail
  refine bodyPost_ret (v := .tuple #[.agg #[.int .i64 cnt, .slice (some ⟨g, 0, none⟩) N c], .slice (some ⟨g, 0, none⟩) N1 c]) (by simp [results, Try.results21, go_sem, t0, t1]) rfl ⟨_, _, rfl, ?_, ?_⟩
  · exact (((HPO.out.set_low (by omega) _).set_low (by omega) _).no (Fr.refl No _).drew).low (by have := HB.out; omega)
  · exact ((HF3.out.set_new (by have := HB.out; omega) _).set_new (by have := HB.out; omega) _).drew
end Go.Proofs.Ytgjpdagbbljmpaa
