/- The document's own net: Cut, Open. -/
import Derived.Test.YthcpdeffgdaieaaD7
namespace Go.Proofs.Ythcpdeffgdaieaa
open Go.RowKit Go.Maps
set_option linter.unusedVariables false

/-! ### Cut -/
set_option maxHeartbeats 400000 in
theorem rcut_none (r : Nat) (conn : Int) (w : World)
    (hf : Calls Try.prog 41 #[.pointer (some ⟨r, 0, none⟩), .int .i64 conn, .int .i64 0] w fun e w' => e = .returned (.pointer none) ∧ w = w') :
    Calls Try.prog 23 #[.pointer (some ⟨r, 0, none⟩), .int .i64 conn] w fun e w' => e = .returned (.int .i64 14) ∧ w = w' := by
  go_enter Try.func23, Try.ntmps23
  go_wp2_with (go_at_call 41; refine hf.mono ?_; rintro e w' ⟨rfl, rfl⟩)
  go_ret
  exact ⟨rfl, rfl⟩

set_option maxHeartbeats 400000 in
theorem rcut_twice (r g : Nat) (conn : Int) (w : World) (x9 : w.cell? ⟨g, 9, none⟩ = some (.bool true))
    (hf : Calls Try.prog 41 #[.pointer (some ⟨r, 0, none⟩), .int .i64 conn, .int .i64 0] w fun e w' => e = .returned (.pointer (some ⟨g, 0, none⟩)) ∧ w = w') :
    Calls Try.prog 23 #[.pointer (some ⟨r, 0, none⟩), .int .i64 conn] w fun e w' => e = .returned (.int .i64 17) ∧ w = w' := by
  go_enter Try.func23, Try.ntmps23
  go_wp2_with (go_at_call 41; refine hf.mono ?_; rintro e w' ⟨rfl, rfl⟩)
  go_ret
  exact ⟨rfl, rfl⟩

def dead5 (w : World) (g : Nat) : World :=
  ((((w.setCell ⟨g, 9, none⟩ (.bool true)).setCell ⟨g, 1, none⟩ (.string ⟨#[]⟩)).setCell ⟨g, 2, none⟩ (.string ⟨#[]⟩)).setCell ⟨g, 3, none⟩ (.string ⟨#[]⟩)).setCell ⟨g, 4, none⟩ (.string ⟨#[]⟩)
theorem rdead_end {g : Nat} {n : Int} {w : World} {K : LK} {sh : Bool → Bool} (hb : Blk w g 38 (refCells n K sh)) (hc : K.cut = false) : Blk (dead5 w g) g 38 (refCells n LK.dead sh) ∧ Fr (One g) w (dead5 w g) := by
  have st : ∀ (w1 : World) (i : Nat) (v : Value), Fr (One g) w1 (w1.setCell ⟨g, i, none⟩ v) := fun w1 i v => (Fr.refl (One g) w1).setCell (p := ⟨g, i, none⟩) (fun _ => rfl) v
  have tr : ∀ {a b c : World}, Fr (One g) a b → Fr (One g) b c → Fr (One g) a c := fun h k => h.trans k fun _ _ hj => hj
  refine ⟨?_, tr (tr (tr (tr (st _ 9 _) (st _ 1 _)) (st _ 2 _)) (st _ 3 _)) (st _ 4 _)⟩
  have hb0 := ((((hb.set_ 9 (.bool true)).set_ 1 (.string ⟨#[]⟩)).set_ 2 (.string ⟨#[]⟩)).set_ 3 (.string ⟨#[]⟩)).set_ 4 (.string ⟨#[]⟩)
  have e : ((((((refCells n K sh).setIfInBounds 9 (.bool true)).setIfInBounds 1 (.string ⟨#[]⟩)).setIfInBounds 2 (.string ⟨#[]⟩)).setIfInBounds 3 (.string ⟨#[]⟩)).setIfInBounds 4 (.string ⟨#[]⟩)) = refCells n LK.dead sh := by
    simp [refCells, LK.dead, hc, LK.wayL, LK.thereL, strV]
  rw [e] at hb0
  exact hb0

set_option maxHeartbeats 1000000 in
theorem rcut_ok (r : Nat) (Q : Rq) (S : NS) (conn : Int) (K : LK) (w : World) (h : RAt w r Q S) (hW : RW S) (hK : S.link conn = some K) (hc : K.cut = false) :
    Calls Try.prog 23 #[.pointer (some ⟨r, 0, none⟩), .int .i64 conn] w fun e w' => e = .returned (.int .i64 0) ∧ Postr r Q S w (S.setL conn LK.dead) w' := by
  have hf : Calls Try.prog 41 #[.pointer (some ⟨r, 0, none⟩), .int .i64 conn, .int .i64 0] w fun e w' => e = .returned (.pointer (some ⟨Q.rg conn, 0, none⟩)) ∧ w = w' := rfind_some r Q S conn false K w h hW hK
  obtain ⟨hn, sh, hb, hsh⟩ := h.conn hW.wf.right hK
  obtain ⟨hb5, hf5⟩ := rdead_end hb hc
  have HP : Hid (Postr r Q S w (S.setL conn LK.dead) (dead5 w (Q.rg conn))) := Lib.hid ⟨Q, PRrcon h hn hf5 hb5 (fun hx => by cases hx)⟩
  have x9 : w.cell? ⟨Q.rg conn, 9, none⟩ = some (.bool false) := by rw [hb.cell 9, ← hc]; rfl
  have x1 : w.cell? ⟨Q.rg conn, 1, none⟩ = some (.string ⟨(K.wayL false).toArray⟩) := hb.cell 1
  have x2 : w.cell? ⟨Q.rg conn, 2, none⟩ = some (.string ⟨(K.wayL true).toArray⟩) := hb.cell 2
  have x3 : w.cell? ⟨Q.rg conn, 3, none⟩ = some (.string ⟨(K.thereL false).toArray⟩) := hb.cell 3
  have x4 : w.cell? ⟨Q.rg conn, 4, none⟩ = some (.string ⟨(K.thereL true).toArray⟩) := hb.cell 4
  have f9 := hb.frozen 9
  have f1 := hb.frozen 1
  have f2 := hb.frozen 2
  have f3 := hb.frozen 3
  have f4 := hb.frozen 4
  clear h hW hK hc hn hb hsh hb5 hf5
  go_enter Try.func23, Try.ntmps23
  go_wp2_with (go_at_call 41; refine hf.mono ?_; rintro e w' ⟨rfl, rfl⟩)
  go_ret
  exact ⟨rfl, HP.out⟩

theorem cut_r (r : Nat) (Q : Rq) (S : NS) (conn : Int) (w : World) (h : RAt w r Q S) (hW : RW S) :
    Calls Try.prog 23 #[.pointer (some ⟨r, 0, none⟩), .int .i64 conn] w fun e w' => e = .returned (.int .i64 (S.cutC conn).1) ∧ Postr r Q S w (S.cutC conn).2 w' := by
  cases hK : S.link conn with
  | none =>
    have e : S.cutC conn = (14, S) := by unfold NS.cutC; rw [hK]
    rw [e]
    exact (rcut_none r conn w (rfind_none r Q S conn 0 w h hW fun _ _ => hK)).mono fun e w' ⟨h1, h2⟩ => ⟨h1, h2 ▸ Postr.refl h⟩
  | some K =>
    cases hc : K.cut
    · have e : S.cutC conn = (0, S.setL conn LK.dead) := by unfold NS.cutC; rw [hK]; simp [hc]
      rw [e]
      exact rcut_ok r Q S conn K w h hW hK hc
    · have e : S.cutC conn = (17, S) := by unfold NS.cutC; rw [hK]; simp [hc]
      rw [e]
      obtain ⟨hn, sh, hb, hsh⟩ := h.conn hW.wf.right hK
      exact (rcut_twice r _ conn w (by rw [hb.cell 9, ← hc]; rfl) (rfind_some r Q S conn false K w h hW hK)).mono fun e w' ⟨h1, h2⟩ => ⟨h1, h2 ▸ Postr.refl h⟩

/-! ### Open -/
theorem ropen_end {w w1 : World} {r : Nat} {Q : Rq} {S : NS} (h : RAt w r Q S) (hW : WF S) (hw1 : w.setCell ⟨r, 0, none⟩ (.int .i64 (S.last + 1)) = w1) {o2 : Obj} {w3 : World} {g cap : Nat}
    (hg : (((w1.alloc (.cells (refCells (S.last + 1) LK.fresh fun _ => false) 38)).alloc o2).drew).grownBy w3 Q.lv.ownBlock)
    (ho3 : w3.ownsRow 0 39 1 (.slice (some ⟨g, 0, none⟩) (S.keys.length + 1) cap) (S.keys.length + 1) ((S.keys.map fun n => ptrV (Q.rg n)) ++ [.pointer (some ⟨w1.heap.size, 0, none⟩)]))
    (hat : Q.lv.ownBlock = some g ∨ g = w1.heap.size + 2) :
    Postr r Q S w S.made (w3.setCell ⟨r, 1, none⟩ (.slice (some ⟨g, 0, none⟩) (S.keys.length + 1) cap)) := by
  have hs1 : w1.heap.size = w.heap.size := by rw [← hw1]; simp
  obtain ⟨v, hv⟩ : ∃ v, Value.slice (some ⟨g, 0, none⟩) (S.keys.length + 1) cap = v := ⟨_, rfl⟩
  have hvb : v.ownBlock = some g := by rw [← hv]; rfl
  rw [hv] at ho3 ⊢
  obtain ⟨wf, hwf⟩ : ∃ wf, w3.setCell ⟨r, 1, none⟩ v = wf := ⟨_, rfl⟩
  obtain ⟨wa, hwa⟩ : ∃ wa, w1.alloc (.cells (refCells (S.last + 1) LK.fresh fun _ => false) 38) = wa := ⟨_, rfl⟩
  have hbn : Blk wa w1.heap.size 38 (refCells (S.last + 1) LK.fresh fun _ => false) := by rw [← hwa]; exact Blk.new w1 38 _
  have hsa : wa.heap.size = w.heap.size + 1 := by rw [← hwa, ← hs1]; simp
  rw [hwa] at hg
  have hrl : r < w.heap.size := h.blk.lt
  have hne : Q.lv.ownBlock ≠ some r := fun e => own_blk_ne h.row e h.blk (by decide) rfl
  have hlt : ∀ k, Q.lv.ownBlock = some k → k < w.heap.size := fun k hk => (h.row.lt k hk).2
  have fa : Fr (fun k => k = r ∨ Q.lv.ownBlock = some k) wa wf := by
    rw [← hwf]
    exact ((((Fr.refl _ wa).alloc o2).drew).grown hg (fun k hk _ => .inr hk)).setCell (p := ⟨r, 1, none⟩) (fun _ => .inl rfl) _
  have f1 : Fr (fun k => k = r ∨ Q.lv.ownBlock = some k) w wa := by
    rw [← hwa, ← hw1]
    exact ((Fr.refl _ w).setCell (p := ⟨r, 0, none⟩) (fun _ => .inl rfl) _).alloc _
  have ff : Fr (fun k => k = r ∨ Q.lv.ownBlock = some k) w wf := f1.trans fa fun _ _ hj => hj
  have hr3 : Blk w3 r 29 #[.int .i64 (S.last + 1), Q.lv] := by
    have hb1 : Blk w1 r 29 #[.int .i64 (S.last + 1), Q.lv] := by rw [← hw1]; exact h.blk.set_ 0 _
    have hba : Blk wa r 29 #[.int .i64 (S.last + 1), Q.lv] := by rw [← hwa]; exact hb1.of (Below.heap_alloc _ _ r (by omega))
    refine hba.of ((hg.block r (by simp; omega) (fun e => hne e.symm)).trans ?_)
    exact Below.heap_alloc wa o2 r (by omega)
  have hgr : g ≠ r := own_blk_ne ho3 hvb hr3 (by decide)
  have hof : wf.ownsRow 0 39 1 v (S.keys.length + 1) ((S.keys.map fun n => ptrV (Q.rg n)) ++ [.pointer (some ⟨w1.heap.size, 0, none⟩)]) := own_of ho3 (fun k hk => by
    rw [← hwf]
    rw [hvb] at hk
    obtain rfl : g = k := by simpa using hk
    exact Below.heap_setCell _ _ _ _ hgr)
  have hnk : ∀ n ∈ S.keys, n ≠ S.last + 1 := fun n hn => by have := (hW.keys n hn); omega
  have hmap : (S.made.keys.map fun n => ptrV (if n = S.last + 1 then w1.heap.size else Q.rg n)) = (S.keys.map fun n => ptrV (Q.rg n)) ++ [.pointer (some ⟨w1.heap.size, 0, none⟩)] := by
    have e1 : S.made.keys = S.keys ++ [S.last + 1] := rfl
    rw [e1, List.map_append]
    congr 1
    · refine List.map_congr_left fun n hn => ?_
      rw [if_neg (hnk n hn)]
    · simp [ptrV]
  have hold : ∀ n ∈ S.keys, Q.rg n < w.heap.size ∧ ¬ (Q.rg n = r ∨ Q.lv.ownBlock = some (Q.rg n)) := fun n hn => by
    obtain ⟨K, sh, _, h2, _⟩ := h.con n hn
    refine ⟨h2.lt, fun e => ?_⟩
    rcases e with e | e
    · exact h.blk.ne_ h2 (by decide) e.symm
    · exact own_blk_ne h.row e h2 (by decide) rfl
  rw [hwf]
  refine ⟨⟨v, fun n => if n = S.last + 1 then w1.heap.size else Q.rg n⟩, ⟨?_, ?_, ?_, ?_⟩, ff.mono fun k _ hk => ?_, ?_⟩
  · rw [← hwf]; exact hr3.set_ 1 _
  · show wf.ownsRow 0 39 1 v S.made.keys.length (S.made.keys.map fun n => ptrV (if n = S.last + 1 then w1.heap.size else Q.rg n))
    rw [hmap]
    have e1 : S.made.keys.length = S.keys.length + 1 := by show (S.keys ++ [S.last + 1]).length = _; simp
    rw [e1]
    exact hof
  · intro n hn
    have hn' : n ∈ S.keys ++ [S.last + 1] := hn
    by_cases e : n = S.last + 1
    · refine ⟨LK.fresh, fun _ => false, ?_, ?_, fun _ s => rfl⟩
      · show upd S.link (S.last + 1) (some LK.fresh) n = _; unfold upd; rw [if_pos e]
      · show Blk wf (if n = S.last + 1 then w1.heap.size else Q.rg n) 38 _
        rw [if_pos e, e]
        refine hbn.of (fa.block _ hbn.lt fun e => ?_)
        rcases e with e | e
        · omega
        · have := hlt _ e; omega
    · have hno : n ∈ S.keys := by simpa [e] using hn'
      obtain ⟨K, sh, h1, h2, h3⟩ := h.con n hno
      refine ⟨K, sh, ?_, ?_, h3⟩
      · show upd S.link (S.last + 1) (some LK.fresh) n = _; unfold upd; rw [if_neg e]; exact h1
      · show Blk wf (if n = S.last + 1 then w1.heap.size else Q.rg n) 38 _
        rw [if_neg e]
        exact h2.of (ff.block _ h2.lt (hold n hno).2)
  · intro n hn m hm hnm
    have hn' : n ∈ S.keys ++ [S.last + 1] := hn
    have hm' : m ∈ S.keys ++ [S.last + 1] := hm
    show (if n = S.last + 1 then w1.heap.size else Q.rg n) ≠ (if m = S.last + 1 then w1.heap.size else Q.rg m)
    by_cases en : n = S.last + 1
    · have em : m ≠ S.last + 1 := fun e => hnm (en.trans e.symm)
      have hmo : m ∈ S.keys := by simpa [em] using hm'
      rw [if_pos en, if_neg em]
      have := (hold m hmo).1
      omega
    · have hno : n ∈ S.keys := by simpa [en] using hn'
      rw [if_neg en]
      by_cases em : m = S.last + 1
      · rw [if_pos em]; have := (hold n hno).1; omega
      · have hmo : m ∈ S.keys := by simpa [em] using hm'
        rw [if_neg em]; exact h.ap n hno m hmo hnm
  · rcases hk with hk | hk
    · exact .inl hk
    · exact .inr (.inl hk)
  · intro k hk
    rcases hk with hk | hk | ⟨n, hn, hk⟩
    · exact .inl (.inl hk)
    · have hk' : v.ownBlock = some k := hk
      rw [hvb] at hk'
      obtain rfl : g = k := by simpa using hk'
      rcases hat with hat | hat
      · exact .inl (.inr (.inl hat))
      · exact .inr (by omega)
    · have hn' : n ∈ S.keys ++ [S.last + 1] := hn
      have hk' : k = (if n = S.last + 1 then w1.heap.size else Q.rg n) := hk
      by_cases en : n = S.last + 1
      · rw [if_pos en] at hk'; exact .inr (by omega)
      · have hno : n ∈ S.keys := by simpa [en] using hn'
        rw [if_neg en] at hk'; exact .inl (.inr (.inr ⟨n, hno, hk'⟩))

set_option maxHeartbeats 400000 in
theorem ropen_full (r : Nat) (Q : Rq) (S : NS) (w : World) (h : RAt w r Q S) (h8 : 8 ≤ S.keys.length) (h9 : S.keys.length ≤ 8) :
    Calls Try.prog 18 #[.pointer (some ⟨r, 0, none⟩)] w fun e w' => e = .returned (.tuple #[.int .i64 0, .int .i64 12]) ∧ w = w' := by
  obtain ⟨A, c, hlv⟩ := h.lv
  have hl : S.keys.length = 8 := by omega
  have c1 : w.cell? ⟨r, 1, none⟩ = some (.slice A 8 c) := by rw [h.blk.cell 1, ← hl, ← hlv]; rfl
  clear h h8 h9 hlv hl
  go_enter Try.func18, Try.ntmps18
  go_wp2
  go_ret2
  exact ⟨rfl, rfl⟩

set_option maxRecDepth 100000 in
set_option maxHeartbeats 2000000 in
theorem ropen_made (r : Nat) (Q : Rq) (S : NS) (w : World) (h : RAt w r Q S) (hW : WF S) (h8 : S.keys.length < 8) (hl0 : 0 ≤ S.last) (hl1 : S.last ≤ 4611686018427387904) :
    Calls Try.prog 18 #[.pointer (some ⟨r, 0, none⟩)] w fun e w' => e = .returned (.tuple #[.int .i64 (S.last + 1), .int .i64 0]) ∧ Postr r Q S w S.made w' := by
  obtain ⟨A, c, hlv⟩ := h.lv
  have c1 : w.cell? ⟨r, 1, none⟩ = some (.slice A S.keys.length c) := by rw [h.blk.cell 1, ← hlv]; rfl
  have c0 : w.cell? ⟨r, 0, none⟩ = some (.int .i64 S.last) := h.blk.cell 0
  have f0 := h.blk.frozen 0
  have h8' : (S.keys.length : Int) < 8 := by omega
  obtain ⟨w1, hw1⟩ : ∃ w1, w.setCell ⟨r, 0, none⟩ (.int .i64 (S.last + 1)) = w1 := ⟨_, rfl⟩
  have hb1 : Blk w1 r 29 #[.int .i64 (S.last + 1), Q.lv] := by rw [← hw1]; exact h.blk.set_ 0 _
  have d0 : w1.cell? ⟨r, 0, none⟩ = some (.int .i64 (S.last + 1)) := hb1.cell 0
  have d1 : w1.cell? ⟨r, 1, none⟩ = some (.slice A S.keys.length c) := by rw [← hlv]; exact hb1.cell 1
  have e1 := hb1.frozen 1
  have hrl : r < w1.heap.size := hb1.lt
  have hne : Q.lv.ownBlock ≠ some r := fun e => own_blk_ne h.row e h.blk (by decide) rfl
  have hrow : w1.ownsRow 0 39 1 (.slice A S.keys.length c) S.keys.length (S.keys.map fun n => ptrV (Q.rg n)) := by
    rw [← hlv]
    exact own_of h.row (fun k hk => by rw [← hw1]; exact Below.heap_setCell _ _ _ _ (fun e => hne (by rw [hk, e])))
  have hq : ∀ (o1 o2 : Obj) (w3 : World), (((w1.alloc o1).alloc o2).drew).grownBy w3 (Value.slice A S.keys.length c).ownBlock → w3.cell? ⟨r, 0, none⟩ = some (.int .i64 (S.last + 1)) ∧ w3.cell? ⟨r, 1, none⟩ = some (.slice A S.keys.length c) ∧ w3.frozen? ⟨r, 1, none⟩ = false := by
    intro o1 o2 w3 hg
    rw [← hlv] at hg
    have hb3 : Blk w3 r 29 #[.int .i64 (S.last + 1), Q.lv] := hb1.of ((hg.block r (by simp; omega) (fun e => hne e.symm)).trans ((Below.heap_alloc (w1.alloc o1) o2 r (by simp; omega)).trans (Below.heap_alloc w1 o1 r hrl)))
    exact ⟨hb3.cell 0, by rw [← hlv]; exact hb3.cell 1, hb3.frozen 1⟩
  have hE : ∀ (o2 : Obj) (w3 : World) (g cap : Nat), (((w1.alloc (.cells (refCells (S.last + 1) LK.fresh fun _ => false) 38)).alloc o2).drew).grownBy w3 (Value.slice A S.keys.length c).ownBlock → w3.ownsRow 0 39 1 (.slice (some ⟨g, 0, none⟩) (S.keys.length + 1) cap) (S.keys.length + 1) ((S.keys.map fun n => ptrV (Q.rg n)) ++ [.pointer (some ⟨w1.heap.size, 0, none⟩)]) → ((Value.slice A S.keys.length c).ownBlock = some g ∨ g = w1.heap.size + 2) → Postr r Q S w S.made (w3.setCell ⟨r, 1, none⟩ (.slice (some ⟨g, 0, none⟩) (S.keys.length + 1) cap)) := by
    intro o2 w3 g cap hg ho hat
    rw [← hlv] at hg hat
    exact ropen_end h hW hw1 hg ho hat
  have HQ := Lib.hid hq
  have HE := Lib.hid hE
  have HL := Lib.hid hrow
  obtain ⟨i0, hi0, hz0, hz1, hz2⟩ := info_parts info39
  clear h hW h8 hlv hb1 hne hrow hq hE
  go_enter Try.func18, Try.ntmps18
  go_wp2_with fail
  clear hw1 c0 c1 f0
  have hnews : ∀ (o1 : Obj), ∀ j u, [Value.pointer (some ⟨w1.heap.size, 0, none⟩)][j]? = some u → (((w1.alloc o1).alloc (.cells #[.pointer (some ⟨w1.heap.size, 0, none⟩)] 39)).drew).cell? ((⟨w1.heap.size + 1, 0, none⟩ : Addr).add j) = some u := fun o1 => by
    have := cell_one_new (w1.alloc o1) (.pointer (some ⟨w1.heap.size, 0, none⟩)) 39
    simpa using this
  have HN := Lib.hid hnews
  clear hnews
  go_region_law (first | (refine step_append_lies _ (by rfl) _ _ _ (by rfl) 0 39 i0 _ 1 8 Try.underlying27 hi0 hz0 hz1 hz2 rfl (by omega) (.slice A S.keys.length c) _ _ (by rfl) (((HL.out.alloc _).alloc _).drew) ⟨w1.heap.size + 1, 0, none⟩ 1 1 [.pointer (some ⟨w1.heap.size, 0, none⟩)] (by rfl) (by rfl) (HN.out _) (by simp [Value.oneCell']) (by omega) (by unfold maxLen; omega) (by omega) (by simp) (w1.heap.size + 2) (by simp) ?_; intro g cap w3 hown3 hgrow hat hlt; have q7 := (HQ.out _ _ _ hgrow).1; have q1 := (HQ.out _ _ _ hgrow).2.1; have qf := (HQ.out _ _ _ hgrow).2.2; have HP := Lib.hid (HE.out _ _ _ _ hgrow hown3 hat); clear hgrow hown3 hat))
  all_goals (go_wp2; go_ret2)
  all_goals exact ⟨rfl, HP.out⟩

theorem open_r (r : Nat) (Q : Rq) (S : NS) (w : World) (h : RAt w r Q S) (hW : RW S) :
    Calls Try.prog 18 #[.pointer (some ⟨r, 0, none⟩)] w fun e w' => e = .returned (.tuple #[.int .i64 S.opened.1.1, .int .i64 S.opened.1.2]) ∧ Postr r Q S w S.opened.2 w' := by
  by_cases h8 : 8 ≤ S.keys.length
  · have e : S.opened = ((0, 12), S) := by unfold NS.opened; rw [if_pos h8]
    rw [e]
    exact (ropen_full r Q S w h h8 hW.few).mono fun e w' ⟨h1, h2⟩ => ⟨h1, h2 ▸ Postr.refl h⟩
  · have e : S.opened = ((S.last + 1, 0), S.made) := by unfold NS.opened; rw [if_neg h8]
    rw [e]
    exact ropen_made r Q S w h hW.wf (by omega) hW.wf.last.1 hW.wf.last.2

end Go.Proofs.Ythcpdeffgdaieaa
