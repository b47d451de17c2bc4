/- Both schedulers, one call of each: a latch opens; any call. -/
import Derived.Test.YtnonidoeakhfdaaH6
namespace Go.Proofs.Ytnonidoeakhfdaa
open Go.RowKit Go.Maps Go.Sort
set_option linter.unusedVariables false

set_option maxRecDepth 100000 in
set_option maxHeartbeats 2000000 in
theorem does_open (w : World) (X : Nat → Prop) (d r : Nat) (S : SS) (o : OpV) (h : NN w X d r S S) (hu : S.used ≤ 1000) (ho : o.Ok) (hk : o.kind.tmod 8 = 7 ∨ o.kind.tmod 8 = -1) : DoesOk w X d r S o := by
  have hnw := wf64 ho.num.1 ho.num.2
  have hW := h.wf
  have h0 : NN (w.alloc (.cells #[.int .i64 o.kind, .int .i64 o.task, .int .i64 o.num] 34)).drew (XO X w.heap.size) d r S S := (h.alloc _).keep ((Fr.refl No _).drew)
  have hq := h0.land (S' := (S.openC o.num).2) fun Y hS => m_open hS o.num hnw (by omega)
  have hs := fun (w' : World) (S1 : SS) (hn : NN w' (XO X w.heap.size) d r S1 S) => hn.docs (T' := (S.openC o.num).2) (hW.openC (by omega) o.num) fun V Z hR hS => r_opens hR hS hW (by omega) o.num
  have hus : (S.openC o.num).2.used ≤ S.used + 1 := openC_used S o.num
  obtain ⟨⟨e1, S1⟩, hp⟩ : ∃ p, (S.openC o.num) = p := ⟨_, rfl⟩
  rw [hp] at hq hus
  simp only [hp] at hs
  simp only at hq hus
  have HU := Lib.hid hus
  clear hp hus
  have HQ := Lib.hid hq
  have HS := Lib.hid hs
  clear h h0 hq hs hW hu ho
  unfold DoesOk
  rcases hk with hk | hk
  · go_enter Try.func11, Try.ntmps11
    go_wp2_with fail
    go_region_with (first
      | (go_at_call 26; refine HQ.out.mono ?_; rintro e w1 ⟨rfl, h1, f1⟩; have f1 : Fr (Out (XO X w.heap.size)) (w.alloc (.cells #[.int .i64 o.kind, .int .i64 o.task, .int .i64 o.num] 34)) w1 := (((Fr.refl _ (w.alloc (.cells #[.int .i64 o.kind, .int .i64 o.task, .int .i64 o.num] 34))).drew).trans f1 fun _ _ hk => hk); have c2 : w1.cell? ⟨w.heap.size, 2, none⟩ = some (.int .i64 o.num) := (copy_cell f1).cell 2; have H1 := Lib.hid h1; have F1 := Lib.hid f1; clear h1 f1 HQ)
      | (go_at_call 33; refine (HS.out _ _ H1.out).mono ?_; rintro e w2 ⟨rfl, h2, f2⟩; have HE := Lib.hid (does_end (S := S) h2 HU.out F1.out f2); clear h2 f2 HS H1 F1))
    all_goals (go_simp; go_wp2_with fail)
    all_goals go_ret
    all_goals exact ⟨rfl, HE.out⟩
  · go_enter Try.func11, Try.ntmps11
    go_wp2_with fail
    go_region_with (first
      | (go_at_call 26; refine HQ.out.mono ?_; rintro e w1 ⟨rfl, h1, f1⟩; have f1 : Fr (Out (XO X w.heap.size)) (w.alloc (.cells #[.int .i64 o.kind, .int .i64 o.task, .int .i64 o.num] 34)) w1 := (((Fr.refl _ (w.alloc (.cells #[.int .i64 o.kind, .int .i64 o.task, .int .i64 o.num] 34))).drew).trans f1 fun _ _ hk => hk); have c2 : w1.cell? ⟨w.heap.size, 2, none⟩ = some (.int .i64 o.num) := (copy_cell f1).cell 2; have H1 := Lib.hid h1; have F1 := Lib.hid f1; clear h1 f1 HQ)
      | (go_at_call 33; refine (HS.out _ _ H1.out).mono ?_; rintro e w2 ⟨rfl, h2, f2⟩; have HE := Lib.hid (does_end (S := S) h2 HU.out F1.out f2); clear h2 f2 HS H1 F1))
    all_goals (go_simp; go_wp2_with fail)
    all_goals go_ret
    all_goals exact ⟨rfl, HE.out⟩

theorem does_any (w : World) (X : Nat → Prop) (d r : Nat) (S : SS) (o : OpV) (h : NN w X d r S S) (hu : S.used ≤ 1000) (ho : o.Ok) : DoesOk w X d r S o := by
  rcases tmod8 o.kind with hk | hk | hk | hk | hk | hk | hk | hk
  · exact does_start w X d r S o h hu ho hk
  · exact does_ends w X d r S o h hu ho hk
  · exact does_pick w X d r S o h hu ho hk
  · exact does_lock w X d r S o h hu ho hk
  · exact does_lock4 w X d r S o h hu ho hk
  · exact does_unlock w X d r S o h hu ho hk
  · exact does_await w X d r S o h hu ho hk
  · exact does_open w X d r S o h hu ho hk

end Go.Proofs.Ytnonidoeakhfdaa
