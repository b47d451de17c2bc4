/- Copy: another dictionary of the same texts, in new memory. -/
import Derived.Test.YtlglfcadoofmpaaC4
namespace Go.Proofs.Ytlglfcadoofmpaa
open Go.RowKit Go.Maps Go.Proofs
set_option linter.unusedVariables false

theorem tclone_row (w : World) (v : Value) (n : Nat) (xs : List Value) (h : w.ownsRow 0 9 1 v n xs) (hn : n ≤ 4096) (h1 : ∀ u ∈ xs, u.oneCell' = true) :
    Calls Try.prog 32 #[v] w fun e w' => ∃ v', e = .returned v' ∧ w'.ownsRow w.heap.size 9 1 v' n xs ∧ Below w.heap.size w w' := by
  rcases h.2 with ⟨rfl, h0⟩ | ⟨g, cap, cur, rfl, _, _⟩
  · refine (tclone_nil w).mono ?_
    rintro e w' ⟨rfl, rfl⟩
    subst h0
    have hx : xs = [] := List.length_eq_zero_iff.1 (by have := h.1; omega)
    subst hx
    exact ⟨_, rfl, World.ownsRow_nil _ _ _ _, Below.refl _ _⟩
  · refine tclone_any g 0 n cap xs w (by have := h.1; omega) (by omega) (fun j u hj => ?_) h1
    have hj2 : j < n := by have := (List.getElem?_eq_some_iff.1 hj).1; have := h.1; omega
    rw [Nat.zero_add]
    exact (h.cellAt j (by omega)).trans hj
def MClQ (D : DU) (w : World) (e : Ending) (w' : World) : Prop := ∃ m, e = .returned (.map m) ∧ MapAt w' Try.prog 9 (plainElem Try.prog 3) m D ∧ (∀ b, m = some b → w.heap.size ≤ b) ∧ Below w.heap.size w w'
theorem mclone_map (w : World) (m : Option Nat) (D : DU) (h : MapAt w Try.prog 9 (plainElem Try.prog 3) m D) : Calls Try.prog 33 #[.map m] w (MClQ D w) := by
  cases m with
  | none =>
    refine (clone_nil w).mono ?_
    rintro e w' ⟨rfl, rfl⟩
    exact ⟨none, rfl, h, (fun b hb => by cases hb), Below.refl _ _⟩
  | some b =>
    refine (clone_owns b _ D w h).mono ?_
    rintro e w' ⟨rfl, h1, _, hb⟩
    exact ⟨_, rfl, h1, (fun b hb => by cases hb; exact Nat.le_refl _), hb⟩
theorem encT_one {l : List Tx} : ∀ u ∈ l.map encT, u.oneCell' = true := by
  intro u hu
  obtain ⟨n, _, rfl⟩ := List.mem_map.1 hu
  rfl

def CopyQ (d : Nat) (S : DS) (w : World) (e : Ending) (w' : World) : Prop :=
  ∃ c, e = .returned (.pointer (some ⟨c, 0, none⟩)) ∧ Dt w' (Bel w.heap.size) c S.L ∧ Fr No w w'
theorem copy_end {w w2 : World} {d : Nat} {R : Rp} {S : DS} {v' : Value} {m : Option Nat} (h : At w d R S) (hW : WF S) (hf : Fr No w w2) (hr : w2.ownsRow w.heap.size 9 1 v' S.L.length (S.L.map encT))
    (hm : MapAt w2 Try.prog 9 (plainElem Try.prog 3) m R.D) (hb : ∀ b, m = some b → w.heap.size ≤ b) :
    CopyQ d S w (.returned (.pointer (some ⟨w2.heap.size, 0, none⟩))) (w2.alloc (.cells #[v', .map m, .int .u32 0, .int .i32 0, .int .u32 0, .slice none 0 0, .slice none 0 0] 65)) := by
  have fa : Fr No w2 (w2.alloc (.cells #[v', .map m, .int .u32 0, .int .i32 0, .int .u32 0, .slice none 0 0, .slice none 0 0] 65)) := (Fr.refl No w2).alloc _
  refine ⟨_, rfl, ⟨fun k hk => by unfold Bel at hk; have := hf.size; simp; omega, ⟨S.L, [], [], false, 0⟩, ⟨v', m, .slice none 0 0, .slice none 0 0, R.D⟩, rfl, ⟨hW.nd, hW.le, hW.tx, by simp, Nat.zero_le _, Nat.zero_le _, by simp, rfl⟩, {
    blk := Blk.new w2 65 _
    texts := own_base (own_of hr fun k hk => fa.block k (hr.lt k hk).2 id) (Nat.zero_le _)
    names := hm.of fun b hb => fa.block b (hm.lt b hb) id
    lk := h.lk
    sz := h.sz
    sorted := World.ownsRow_nil _ _ _ _
    ranks := World.ownsRow_nil _ _ _ _
    ap := fun k hk => by simp [Value.ownBlock] at hk }, fun k hk hx => ?_⟩, hf.trans fa fun _ _ h => h⟩
  unfold Bel at hx
  rcases hk with hk | hk | hk | hk | hk
  · have := hf.size; omega
  · have := hb k hk; omega
  · have := (hr.lt k hk).1; omega
  · simp [Value.ownBlock] at hk
  · simp [Value.ownBlock] at hk

set_option maxRecDepth 100000 in
set_option maxHeartbeats 4000000 in
theorem copy_any (d : Nat) (R : Rp) (S : DS) (w : World) (h : At w d R S) (hW : WF S) : Calls Try.prog 20 #[.pointer (some ⟨d, 0, none⟩)] w (CopyQ d S w) := by
  have hct : ∀ wx : World, Fr No w wx → Calls Try.prog 32 #[R.tv] wx fun e w' => ∃ v', e = .returned v' ∧ w'.ownsRow wx.heap.size 9 1 v' S.L.length (S.L.map encT) ∧ Below wx.heap.size wx w' := fun wx hf => tclone_row wx R.tv S.L.length _ (h.keep hf).texts hW.le encT_one
  have hcm : ∀ wx : World, Fr No w wx → Calls Try.prog 33 #[.map R.nm] wx (MClQ R.D wx) := fun wx hf => mclone_map wx R.nm R.D (h.keep hf).names
  have hce : ∀ wx : World, Fr No w wx → wx.cell? ⟨d, 0, none⟩ = some R.tv ∧ wx.cell? ⟨d, 1, none⟩ = some (.map R.nm) := fun wx hf => ⟨(h.keep hf).cells.1, (h.keep hf).cells.2.1⟩
  have hend : ∀ (w2 : World) (v' : Value) (m : Option Nat), Fr No w w2 → w2.ownsRow w.heap.size 9 1 v' S.L.length (S.L.map encT) → MapAt w2 Try.prog 9 (plainElem Try.prog 3) m R.D → (∀ b, m = some b → w.heap.size ≤ b) →
      CopyQ d S w (.returned (.pointer (some ⟨w2.heap.size, 0, none⟩))) (w2.alloc (.cells #[v', .map m, .int .u32 0, .int .i32 0, .int .u32 0, .slice none 0 0, .slice none 0 0] 65)) := fun w2 v' m hf hr hm hb => copy_end h hW hf hr hm hb
  have HCT := Lib.hid hct
  have HCM := Lib.hid hcm
  have HCE := Lib.hid hce
  have HEND := Lib.hid hend
  have HF0 : Hid (Fr No w w.drew) := Lib.hid (Fr.refl No w).drew
  clear hct hcm hce hend h hW
  generalize R.tv = tv at *
  generalize R.nm = nm at *
  go_enter Try.func20, Try.ntmps20
  go_upto_region 3 with fail
  go_region_held3 (fun w' => w'.cell? ⟨d, 0, none⟩ = some tv ∧ w'.cell? ⟨d, 1, none⟩ = some (.map nm))
    (first | exact HCE.out _ (HF2.out.alloc _) | exact HCE.out _ HF2.out | exact HCE.out _ HF1.out | exact HCE.out _ HF0.out | go_keep)
    (first
      | (go_at_call 32; (with_reducible refine (HCT.out _ HF0.out).mono ?_); rintro e wa ⟨v1, rfl, hr, hb⟩; obtain ⟨A1, c1, rfl⟩ := own_form hr; have HF1 := Lib.hid (HF0.out.trans (Fr.of_below hb) fun _ _ h => h); have HT1 := Lib.hid (own_base hr HF0.out.size); clear hr hb)
      | (go_at_call 33; (with_reducible refine (HCM.out _ HF0.out).mono ?_); rintro e wa ⟨m1, rfl, hm, hg, hb⟩; have HF1 := Lib.hid (HF0.out.trans (Fr.of_below hb) fun _ _ h => h); have HM1 := Lib.hid hm; have HG1 := Lib.hid hg; clear hm hg hb)
      | (go_at_call 32; (with_reducible refine (HCT.out _ HF1.out).mono ?_); rintro e wb ⟨v1, rfl, hr, hb⟩; obtain ⟨A1, c1, rfl⟩ := own_form hr; have HF2 := Lib.hid (HF1.out.trans (Fr.of_below hb) fun _ _ h => h); have HE := Lib.hid (HEND.out _ _ _ HF2.out (own_base hr HF1.out.size) (HM1.out.of fun b hb' => (Fr.of_below hb).block b (HM1.out.lt b hb') id) HG1.out); clear hr hb)
      | (go_at_call 33; (with_reducible refine (HCM.out _ HF1.out).mono ?_); rintro e wb ⟨m1, rfl, hm, hg, hb⟩; have HF2 := Lib.hid (HF1.out.trans (Fr.of_below hb) fun _ _ h => h); have HE := Lib.hid (HEND.out _ _ m1 HF2.out (own_of HT1.out fun k hk => (Fr.of_below hb).block k (HT1.out.lt k hk).2 id) hm (fun b hb' => Nat.le_trans HF1.out.size (hg b hb'))); clear hm hg hb))
  all_goals (go_simp; go_wp2_with fail)
  all_goals go_ret
  all_goals exact HE.out
end Go.Proofs.Ytlglfcadoofmpaa
