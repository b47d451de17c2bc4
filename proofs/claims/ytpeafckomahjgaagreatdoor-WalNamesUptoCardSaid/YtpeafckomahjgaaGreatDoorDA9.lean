/- A change of names: made in a table, and kept in the list of loose ones. -/
import Derived.Test.YtpeafckomahjgaaGreatDoorDA8
import Derived.Deep.RegionLaw
import Derived.Lib.QuietBelow
namespace Go.Proofs.YtpeafckomahjgaaGreatDoor
open Go.RowKit Go.Maps
set_option linter.unusedVariables false

/-- A change, made in a table of names. -/
def Ch.app (c : Ch) (D : DU) : DU :=
  if c.to = [] then D.del (.string c.frm) else (D.del (.string c.frm)).put (.string c.to) (.lit (.int .i64 c.file))

theorem mapTurned_one {w w' : World} {b : Nat} (h : w.mapTurned w' b) : Fr (One b) w w' :=
  (Fr.refl _ w).grown h.grown fun k hk _ => by cases hk; rfl

theorem turned_new {w w1 : World} {b : Nat} {cs : Array Value} {t : TypeId} (hb : b < w.heap.size) (h : (w.alloc (.cells cs t)).mapTurned w1 b) (i : Nat) : w1.cell? ⟨w.heap.size, i, none⟩ = cs[i]? := by
  have hx := h.grown.block w.heap.size (by simp) (by simp; omega)
  exact Blk.cell (t := t) ((hx.trans (heap_alloc_new w _) : Blk w1 w.heap.size t cs)) i

set_option maxRecDepth 100000 in
set_option maxHeartbeats 800000 in
theorem apply_gone (c : Ch) (b n : Nat) (D : DU) (w : World) (hown : w.ownsMap Tryz.prog 9 (plainElem Tryz.prog 3) b n D) (hf : c.frm.length ≤ maxLen) (ht : c.to = []) :
    Calls Tryz.prog 63 #[.agg #[.string ⟨c.frm.toArray⟩, .string ⟨c.to.toArray⟩, .int .i64 c.file], .map (some b)] w fun e w' => e = .returned (.tuple #[]) ∧ w'.ownsMap Tryz.prog 9 (plainElem Tryz.prog 3) b n (D.del (.string c.frm)) ∧ Fr (One b) w w' := by
  have hb := hown.lt
  have hkey := key9 c.frm hf
  rw [ht]
  clear ht hf
  go_enter Tryz.func63, Tryz.ntmps63
  have hoa := hown.alloc (.cells #[.string ⟨c.frm.toArray⟩, .string ⟨[].toArray⟩, .int .i64 c.file] 108)
  clear hown
  go_wp2_with (at_delete; refine wpList_delete_own _ rfl _ _ 75 9 rfl 3 law9 Tryz.underlying75 _ b n D rfl hoa _ _ rfl hkey ?_; intro w1 hown1 hturn1; have c1 := turned_new hb hturn1 1; have HT := Lib.hid hturn1; have HO := Lib.hid hown1; clear hturn1 hown1 hoa hkey)
  go_end0
  exact ⟨rfl, HO.out, ((Fr.refl _ w).alloc _).trans (mapTurned_one HT.out) fun _ _ hj => hj⟩

set_option maxRecDepth 100000 in
set_option maxHeartbeats 800000 in
theorem apply_put (c : Ch) (b n : Nat) (D : DU) (w : World) (hown : w.ownsMap Tryz.prog 9 (plainElem Tryz.prog 3) b n D) (hf : c.frm.length ≤ maxLen) (hl : c.to.length ≤ maxLen) (ht : c.to ≠ []) (hn : n < maxLen) (hw : (Lit.int .i64 c.file).wf = true) :
    Calls Tryz.prog 63 #[.agg #[.string ⟨c.frm.toArray⟩, .string ⟨c.to.toArray⟩, .int .i64 c.file], .map (some b)] w fun e w' => e = .returned (.tuple #[]) ∧ w'.ownsMap Tryz.prog 9 (plainElem Tryz.prog 3) b (n + 1) ((D.del (.string c.frm)).put (.string c.to) (.lit (.int .i64 c.file))) ∧ Fr (One b) w w' := by
  have hb := hown.lt
  have hkey := key9 c.frm hf
  have hkey2 := key9 c.to hl
  have hval : plainElem (H := Unit) Tryz.prog 3 (.int .i64 c.file) = some (.lit (.int .i64 c.file), []) := plainElem_int Tryz.underlying3 hw
  have HK := Lib.hid hkey2
  have HV := Lib.hid hval
  have hte : (c.to == []) = false := by simpa using ht
  clear ht hf hl hw hkey2 hval
  go_enter Tryz.func63, Tryz.ntmps63
  have hoa := hown.alloc (.cells #[.string ⟨c.frm.toArray⟩, .string ⟨c.to.toArray⟩, .int .i64 c.file] 108)
  clear hown
  go_wp2_with (first
    | (at_delete; refine wpList_delete_own _ rfl _ _ 75 9 rfl 3 law9 Tryz.underlying75 _ b n D rfl hoa _ _ rfl hkey ?_; intro w1 hown1 hturn1; have c1 := turned_new hb hturn1 1; have c2 := turned_new hb hturn1 2; have HT := Lib.hid hturn1; have HO := Lib.hid hown1; clear hturn1 hown1 hoa hkey)
    | (at_mapUpdate; refine wpList_mapUpdate_in _ rfl _ _ _ 75 rfl 9 3 law9 Tryz.underlying75 _ b n _ rfl HO.out hn _ _ _ rfl rfl HK.out _ _ HV.out ?_; intro w2 hown2 hturn2; have HT2 := Lib.hid hturn2; have HO2 := Lib.hid hown2; clear hturn2 hown2))
  go_end0
  exact ⟨rfl, HO2.out, (((Fr.refl _ w).alloc _).trans (mapTurned_one HT.out) fun _ _ hj => hj).trans (mapTurned_one HT2.out) fun _ _ hj => hj⟩

theorem apply_any (c : Ch) (b n : Nat) (D : DU) (w : World) (hown : w.ownsMap Tryz.prog 9 (plainElem Tryz.prog 3) b n D) (hf : c.frm.length ≤ maxLen) (hl : c.to.length ≤ maxLen) (hn : n < maxLen) (hw : (Lit.int .i64 c.file).wf = true) :
    Calls Tryz.prog 63 #[.agg #[.string ⟨c.frm.toArray⟩, .string ⟨c.to.toArray⟩, .int .i64 c.file], .map (some b)] w fun e w' => e = .returned (.tuple #[]) ∧ w'.ownsMap Tryz.prog 9 (plainElem Tryz.prog 3) b (Maps.size (c.app D)) (c.app D) ∧ Fr (One b) w w' := by
  by_cases ht : c.to = []
  · refine (apply_gone c b n D w hown hf ht).mono ?_
    rintro e w' ⟨he, ho, hfr⟩
    rw [show c.app D = D.del (.string c.frm) from by unfold Ch.app; rw [if_pos ht]]
    exact ⟨he, owns_tight ho, hfr⟩
  · refine (apply_put c b n D w hown hf hl ht hn hw).mono ?_
    rintro e w' ⟨he, ho, hfr⟩
    rw [show c.app D = (D.del (.string c.frm)).put (.string c.to) (.lit (.int .i64 c.file)) from by unfold Ch.app; rw [if_neg ht]]
    exact ⟨he, owns_tight ho, hfr⟩

/-! ### alter -/
/-- The table of names has turned, and nothing else. -/
theorem At.named {w w' : World} {d b : Nat} {R : Rp} {S : AS} (h : At w d R S) (hnm : R.nm = some b) {D : DU} (hf : Fr (One b) w w') (ho : w'.ownsMap Tryz.prog 9 (plainElem Tryz.prog 3) b (Maps.size D) D) :
    At w' d R { S with names := D } := by
  have lt := h.lt
  have ne : ∀ k, foot d R S k → k ≠ b → w'.heap[k]? = w.heap[k]? := fun k hk hn => hf.block k (lt k hk) hn
  have hb := owns_map (b := b) (by have := h.names; rw [hnm] at this; exact this)
  obtain ⟨es, cl, hb⟩ := hb
  have cne : ∀ {k : Nat} {cs : Array Value} {t : TypeId} {fz : Nat × Nat}, w.heap[k]? = some (.cells cs t fz) → k ≠ b := fun hc e => map_ne_blk hb hc e.symm
  exact {
    blk := h.blk.of (ne _ (.inl rfl) (cne h.blk))
    names := by rw [hnm]; exact ho
    firm := h.firm.of fun k hk => ne _ (.inr (.inr (.inl hk))) fun e => h.ne1 b hnm (e ▸ hk)
    files := h.files.of fun k hk => ne _ (.inr (.inr (.inr (.inl hk)))) fun e => h.ne2 b hnm (e ▸ hk)
    loose := own_of h.loose fun k hk => ne _ (.inr (.inr (.inr (.inr (.inl hk))))) (by obtain ⟨cur, hc⟩ := own_row h.loose hk; exact cne hc)
    fd := fun n => (h.fd n).of fun r hr k hk => ne _ (.inr (.inr (.inr (.inr (.inr ⟨n, r, hr, hk⟩))))) (by
      have hf := h.fd n
      rw [hr] at hf
      rcases hk with rfl | hk
      · exact cne hf.2.1
      · obtain ⟨cur, hc⟩ := own_row hf.2.2 hk; exact cne hc)
    ne1 := h.ne1
    ne2 := h.ne2
    ne3 := h.ne3
    ap := h.ap
    onn := h.onn }

/-- The list of loose changes has turned, and nothing else. -/
theorem At.listed {w w' : World} {d : Nat} {R : Rp} {S : AS} (h : At w d R S) {L : List Ch} {lv : Value} (hf : Fr (fun k => k = d ∨ R.lv.ownBlock = some k) w w')
    (hb : Blk w' d 84 (cellsOf S { R with lv := lv })) (ho : w'.ownsRow 0 108 3 lv L.length (L.flatMap Ch.cells)) : At w' d { R with lv := lv } { S with loose := L } := by
  have lt := h.lt
  obtain ⟨a1, a2, a3, a4, a5⟩ := h.apart
  have ne : ∀ k, foot d R S k → k ≠ d → R.lv.ownBlock ≠ some k → w'.heap[k]? = w.heap[k]? := fun k hk hn hm => hf.block k (lt k hk) (by rintro (e | e); exact hn e; exact hm e)
  have mp : ∀ {K : TypeId} {E : Value → Option (DU × List MemPlace)} {m : Option Nat} {D : DU} {k : Nat}, MapAt w Tryz.prog K E m D → m = some k → R.lv.ownBlock ≠ some k := by
    intro K E m D k hm hk e
    subst hk
    obtain ⟨es, c, he⟩ := owns_map (b := k) hm
    obtain ⟨cur, hc⟩ := own_row h.loose e
    exact map_ne_blk he hc rfl
  exact {
    blk := hb
    names := h.names.of fun b hb => ne _ (.inr (.inl hb)) (fun e => a1 (e ▸ hb)) (mp h.names hb)
    firm := h.firm.of fun b hb => ne _ (.inr (.inr (.inl hb))) (fun e => a2 (e ▸ hb)) (mp h.firm hb)
    files := h.files.of fun b hb => ne _ (.inr (.inr (.inr (.inl hb)))) (fun e => a3 (e ▸ hb)) (mp h.files hb)
    loose := ho
    fd := fun n => (h.fd n).of fun r hr k hk => ne _ (.inr (.inr (.inr (.inr (.inr ⟨n, r, hr, hk⟩)))))
      (fun e => by
        rcases hk with hk | hk
        · exact (a5 n r hr).1 (hk ▸ e)
        · exact (a5 n r hr).2 (e ▸ hk))
      (fun e => (h.other hr hk).2.2.2.2.1 e)
    ne1 := h.ne1
    ne2 := h.ne2
    ne3 := h.ne3
    ap := h.ap
    onn := h.onn }

def AS.altered (S : AS) (c : Ch) : AS := { S with names := c.app S.names, loose := S.loose ++ [c] }

theorem alter_end {w w1 w3 : World} {d b g cap : Nat} {R : Rp} {S : AS} {c : Ch} {o : Obj} (hnm : R.nm = some b) (hfr : Fr (One b) w w1) (h1 : At w1 d R { S with names := c.app S.names })
    (hg : ((w1.alloc o).drew).grownBy w3 R.lv.ownBlock)
    (ho3 : w3.ownsRow 0 108 3 (.slice (some ⟨g, 0, none⟩) (S.loose.length + 1) cap) (S.loose.length + 1) (S.loose.flatMap Ch.cells ++ [.string ⟨c.frm.toArray⟩, .string ⟨c.to.toArray⟩, .int .i64 c.file]))
    (hb3 : Blk w3 d 84 (cellsOf S R)) (hat : R.lv.ownBlock = some g ∨ g = w1.heap.size + 1) :
    Post d R S w (S.altered c) (w3.setCell ⟨d, 7, none⟩ (.slice (some ⟨g, 0, none⟩) (S.loose.length + 1) cap)) := by
  have hgd : g ≠ d := own_blk_ne ho3 rfl hb3 (by decide)
  have hf : Fr (fun k => k = d ∨ R.lv.ownBlock = some k) w1 (w3.setCell ⟨d, 7, none⟩ (.slice (some ⟨g, 0, none⟩) (S.loose.length + 1) cap)) :=
    ((((Fr.refl _ w1).alloc o).drew).grown hg (fun k hk _ => .inr hk)).setCell (p := ⟨d, 7, none⟩) (fun _ => .inl rfl) _
  have ho4 : (w3.setCell ⟨d, 7, none⟩ (.slice (some ⟨g, 0, none⟩) (S.loose.length + 1) cap)).ownsRow 0 108 3 (.slice (some ⟨g, 0, none⟩) (S.loose.length + 1) cap) (S.loose ++ [c]).length ((S.loose ++ [c]).flatMap Ch.cells) := by
    have := own_of ho3 (w' := w3.setCell ⟨d, 7, none⟩ (.slice (some ⟨g, 0, none⟩) (S.loose.length + 1) cap)) (fun k hk => Below.heap_setCell _ _ _ _ (by
      simp [Value.ownBlock] at hk; subst hk; exact hgd))
    rw [List.length_append, List.flatMap_append]
    simpa [Ch.cells] using this
  have h4 := h1.listed hf (hb3.set_ 7 _) ho4
  have hfr' : Fr (foot d R S) w w1 := hfr.mono fun k _ hk => .inr (.inl (by rw [hnm, show k = b from hk]))
  refine ⟨_, h4, hfr'.trans hf (fun k _ hk => ?_), fun k hk => ?_⟩
  · rcases hk with hk | hk
    · exact .inl hk
    · exact .inr (.inr (.inr (.inr (.inl hk))))
  · rcases hk with hk | hk | hk | hk | hk | hk
    · exact .inl (.inl hk)
    · exact .inl (.inr (.inl hk))
    · exact .inl (.inr (.inr (.inl hk)))
    · exact .inl (.inr (.inr (.inr (.inl hk))))
    · have e : g = k := by simpa [Value.ownBlock] using hk
      subst e
      rcases hat with hat | hat
      · exact .inl (.inr (.inr (.inr (.inr (.inl hat)))))
      · exact .inr (by have := hfr.size; omega)
    · exact .inl (.inr (.inr (.inr (.inr (.inr hk)))))

theorem info73 : (Tryz.prog.info? 108).map (fun i => (i.zero, i.size, i.bytes)) = some (some (.agg #[.string ⟨#[]⟩, .string ⟨#[]⟩, .int .i64 0]), 3, 40) := by kernel_rfl

set_option maxRecDepth 100000 in
set_option maxHeartbeats 800000 in
theorem alter_any (d : Nat) (R : Rp) (S : AS) (c : Ch) (b : Nat) (w : World) (h : At w d R S) (hnm : R.nm = some b) (hf : c.frm.length ≤ maxLen) (hl : c.to.length ≤ maxLen) (hn : Maps.size S.names < maxLen) (hw : (Lit.int .i64 c.file).wf = true) (hll : S.loose.length < 3000000000000) :
    Calls Tryz.prog 74 #[.pointer (some ⟨d, 0, none⟩), .string ⟨c.frm.toArray⟩, .string ⟨c.to.toArray⟩, .int .i64 c.file] w fun e w' => e = .returned (.tuple #[]) ∧ Post d R S w (S.altered c) w' := by
  generalize hcs : (#[.string ⟨c.frm.toArray⟩, .string ⟨c.to.toArray⟩, .int .i64 c.file] : Array Value) = cs at *
  obtain ⟨w0, hw0⟩ : ∃ w0, w.alloc (.cells cs 108) = w0 := ⟨_, rfl⟩
  have f0 : Fr No w w0 := by rw [← hw0]; exact (Fr.refl _ w).alloc _
  have h0 := h.keep f0
  have hbk : Blk w0 w.heap.size 108 cs := by rw [← hw0]; exact Blk.new w 108 cs
  have hbl : b < w.heap.size := by have := h.names.lt b hnm; exact this
  have n0 : w0.cell? ⟨w.heap.size, 0, none⟩ = some (.string ⟨c.frm.toArray⟩) := by rw [hbk.cell, ← hcs]; rfl
  have n1 : w0.cell? ⟨w.heap.size, 1, none⟩ = some (.string ⟨c.to.toArray⟩) := by rw [hbk.cell, ← hcs]; rfl
  have n2 : w0.cell? ⟨w.heap.size, 2, none⟩ = some (.int .i64 c.file) := by rw [hbk.cell, ← hcs]; rfl
  have c5 := (cells_all h0).2.2.2.2.2.1
  rw [hnm] at c5
  have hown := h0.names
  rw [hnm] at hown
  have happ := apply_any c b _ S.names _ (World.ownsMap.drew hown) hf hl hn hw
  have HA := Lib.hid happ
  have H0 := Lib.hid h0
  have HF0 := Lib.hid f0
  have HB := Lib.hid hbk
  subst hcs
  clear happ hown h hf hl hn hw h0 f0 hbk
  go_enter Tryz.func74, Tryz.ntmps74
  go_wp2_with fail
  clear hw0
  go_still_tail 5, (by kernel_rfl)
  change wpList _ _ _ _ _ (World.drew _)
  go_wp2_with fail
  refine HA.out.mono ?_
  rintro e w1 ⟨rfl, ho1, hf1⟩
  have hfr : Fr (One b) w w1 := (HF0.out.any.drew).trans hf1 fun _ _ hj => hj
  have h1 := H0.out.named hnm (w' := w1) (D := c.app S.names) ⟨hf1.os, hf1.tape, hf1.output, hf1.size, hf1.block⟩ ho1
  have hb1 : Blk w1 w.heap.size 108 #[.string ⟨c.frm.toArray⟩, .string ⟨c.to.toArray⟩, .int .i64 c.file] := HB.out.of (hf1.block _ HB.out.lt (by
    intro e
    have := hbl
    unfold One at e
    omega))
  have d7 := (cells_all h1).2.2.2.2.2.2.2.1
  have m0 := hb1.cell 0
  have m1 := hb1.cell 1
  have m2 := hb1.cell 2
  have fz := h1.blk.frozen 7
  have HFR := Lib.hid hfr
  have H1 := Lib.hid h1
  clear hfr hf1 ho1 h1 hb1 n0 n1 n2 c5 HA
  obtain ⟨i0, hi0, hz0, hz1, hz2⟩ := info_parts info73
  have hlo : w1.ownsRow 0 108 3 R.lv S.loose.length (S.loose.flatMap Ch.cells) := H1.out.loose
  have HL := Lib.hid hlo
  clear hlo
  have hq : ∀ (o : Obj) (w3 : World), ((w1.alloc o).drew).grownBy w3 R.lv.ownBlock → w3.cell? ⟨d, 7, none⟩ = some R.lv ∧ w3.frozen? ⟨d, 7, none⟩ = false ∧ Blk w3 d 84 (cellsOf S R) := by
    intro o w3 hg
    have hdl := H1.out.blk.lt
    have hb3 : Blk w3 d 84 (cellsOf S R) := H1.out.blk.of ((hg.block d (by simp; omega) (fun e => H1.out.apart.2.2.2.1 e.symm)).trans (Below.heap_alloc w1 o d hdl))
    exact ⟨hb3.cell 7, hb3.frozen 7, hb3⟩
  have HQ := Lib.hid hq
  clear hq
  have hdl1 : d < w1.heap.size := H1.out.blk.lt
  go_wp2_with fail
  go_region_law (first | (refine step_append_lies _ (by rfl) _ _ _ (by rfl) 0 108 i0 _ 3 40 Tryz.underlying82 hi0 hz0 hz1 hz2 rfl (by omega) R.lv _ _ (by rfl) ((HL.out.alloc _).drew) ⟨w1.heap.size, 0, none⟩ 1 1 [.string ⟨c.frm.toArray⟩, .string ⟨c.to.toArray⟩, .int .i64 c.file] (by rfl) (by rfl) (World.news_of_block (cs := #[.string ⟨c.frm.toArray⟩, .string ⟨c.to.toArray⟩, .int .i64 c.file]) (t := 108) (fr := (0, 0)) (heap_alloc_new w1 _)) (by simp [Value.oneCell']) (by omega) (by unfold maxLen; omega) (by omega) (by simp) (w1.heap.size + 1) (by simp) ?_; intro g cap w3 hown3 hgrow hat hlt; have q7 := (HQ.out _ _ hgrow).1; have qf := (HQ.out _ _ hgrow).2.1; have HB3 := Lib.hid (HQ.out _ _ hgrow).2.2; have HG := Lib.hid hgrow; have HO3 := Lib.hid hown3; have HAT := Lib.hid hat; clear hgrow hown3 hat))
  all_goals (go_wp2; go_end0)
  all_goals exact ⟨rfl, alter_end hnm HFR.out H1.out HG.out HO3.out HB3.out HAT.out⟩

end Go.Proofs.YtpeafckomahjgaaGreatDoor
