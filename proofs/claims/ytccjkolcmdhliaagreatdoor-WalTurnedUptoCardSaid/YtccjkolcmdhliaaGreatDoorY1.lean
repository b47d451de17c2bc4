/- What the disk's Copy calls; the copy half made. -/
import Derived.Test.YtccjkolcmdhliaaGreatDoorM2
import Derived.Shelf.SlicesE.Clone
import Derived.Shelf.SlMaps.Clone
import Derived.Laws.LoneSync
namespace Go.Proofs.YtccjkolcmdhliaaGreatDoor
open Go.RowKit Go.Maps Go.Shelf Go.Proofs
set_option linter.unusedVariables false

def Lay.cloneC_ren : Go.Shelf.Ren := ⟨fun | 41 => 81 | n => n, fun | 22 => 82 | 23 => 108 | 4 => 4 | n => n, fun | n => n⟩
theorem Lay.cloneC : Go.Proofs.SlLaysE0.n41 Tryz.prog Lay.cloneC_ren where
  mixed := by kernel_rfl
  f41 := ⟨Tryz.f81.name, by decide, Tryz.func81.trans (congrArg some (by kernel_rfl))⟩
  t4 := Tryz.underlying4
  a4 := Tryz.isAgg4
  z4 := Tryz.sizeOf4
  v4 := Tryz.zeroValue4
  t22 := Tryz.underlying82
  a22 := Tryz.isAgg82
  z22 := Tryz.sizeOf82
  v22 := Tryz.zeroValue82
def Lay.cloneB_ren : Go.Shelf.Ren := ⟨fun | 41 => 84 | n => n, fun | 22 => 63 | 23 => 5 | 4 => 4 | n => n, fun | n => n⟩
theorem Lay.cloneB : Go.Proofs.SlLaysE0.n41 Tryz.prog Lay.cloneB_ren where
  mixed := by kernel_rfl
  f41 := ⟨Tryz.f84.name, by decide, Tryz.func84.trans (congrArg some (by kernel_rfl))⟩
  t4 := Tryz.underlying4
  a4 := Tryz.isAgg4
  z4 := Tryz.sizeOf4
  v4 := Tryz.zeroValue4
  t22 := Tryz.underlying63
  a22 := Tryz.isAgg63
  z22 := Tryz.sizeOf63
  v22 := Tryz.zeroValue63

theorem Fr.no {a b c : World} (h : Fr No a b) (k : Fr No b c) : Fr No a c := h.trans k fun _ _ h => h
theorem own_form {w : World} {b n s : Nat} {e : TypeId} {v : Value} {xs : List Value} (h : w.ownsRow b e s v n xs) : ∃ A c, v = .slice A n c := by
  rcases h.2 with ⟨rfl, h0⟩ | ⟨g, cap, cur, rfl, _⟩
  · exact ⟨none, 0, by rw [h0]⟩
  · exact ⟨_, _, rfl⟩
/-- slices.Clone of the loose changes. -/
theorem cclone_any (w : World) (v : Value) (n : Nat) (xs : List Value) (h : w.ownsRow 0 108 3 v n xs) (hn : n ≤ 1000000000000) (h1 : ∀ u ∈ xs, u.oneCell' = true) :
    Calls Tryz.prog 81 #[v] w fun e w' => ∃ A c, e = .returned (.slice A n c) ∧ w'.ownsRow w.heap.size 108 3 (.slice A n c) n xs ∧ Below w.heap.size w w' := by
  rcases h.2 with ⟨rfl, h0⟩ | ⟨g, cap, cur, rfl, _, _⟩
  · have hh : Calls Tryz.prog 81 #[.slice none 0 0] w fun e w' => e = .returned (.slice none 0 0) ∧ w' = w := AnyE.slices_Clone_nil Lay.cloneC 0 0 w
    refine hh.mono ?_
    rintro e w' ⟨rfl, rfl⟩
    subst h0
    have hx : xs = [] := List.length_eq_zero_iff.1 (by have := h.1; omega)
    subst hx
    exact ⟨none, 0, rfl, World.ownsRow_nil _ _ _ _, Below.refl _ _⟩
  · obtain ⟨i0, hi0, hz0, hz1, hz2⟩ := info_parts info73
    have hl := h.1
    have hh := AnyE.slices_Clone Lay.cloneC i0 (.agg #[.string ⟨#[]⟩, .string ⟨#[]⟩, .int .i64 0]) 3 40 hi0 hz0 hz1 hz2 rfl (by omega) (fun w => Tryz.sizeOf108 w) g 0 n cap xs w (by omega) (by unfold maxLen; omega) (by omega) (fun j u hj => by
      have hj2 : j < xs.length := (List.getElem?_eq_some_iff.1 hj).1
      rw [Nat.zero_add]
      exact (h.cellAt j (by omega)).trans hj) h1
    refine Calls.mono hh ?_
    rintro e w' ⟨v', h1, h2, _, h4⟩
    obtain ⟨A, c, rfl⟩ := own_form h2
    exact ⟨A, c, h1, h2, h4⟩
/-- slices.Clone of bytes. -/
theorem bclone_any (w : World) (v : Value) (n : Nat) (xs : List Value) (h : w.ownsRow 0 5 1 v n xs) (hn : n ≤ 1000000000000) (h1 : ∀ u ∈ xs, u.oneCell' = true) :
    Calls Tryz.prog 84 #[v] w fun e w' => ∃ A c, e = .returned (.slice A n c) ∧ w'.ownsRow w.heap.size 5 1 (.slice A n c) n xs ∧ Below w.heap.size w w' := by
  rcases h.2 with ⟨rfl, h0⟩ | ⟨g, cap, cur, rfl, _, _⟩
  · have hh : Calls Tryz.prog 84 #[.slice none 0 0] w fun e w' => e = .returned (.slice none 0 0) ∧ w' = w := AnyE.slices_Clone_nil Lay.cloneB 0 0 w
    refine hh.mono ?_
    rintro e w' ⟨rfl, rfl⟩
    subst h0
    have hx : xs = [] := List.length_eq_zero_iff.1 (by have := h.1; omega)
    subst hx
    exact ⟨none, 0, rfl, World.ownsRow_nil _ _ _ _, Below.refl _ _⟩
  · obtain ⟨i0, hi0, hz0, hz1, hz2⟩ := info_parts info5
    have hl := h.1
    have hh := AnyE.slices_Clone Lay.cloneB i0 (.int .u8 0) 1 1 hi0 hz0 hz1 hz2 rfl (by omega) (fun w => Tryz.sizeOf5 w) g 0 n cap xs w (by omega) (by unfold maxLen; omega) (by omega) (fun j u hj => by
      have hj2 : j < xs.length := (List.getElem?_eq_some_iff.1 hj).1
      rw [Nat.zero_add]
      exact (h.cellAt j (by omega)).trans hj) h1
    refine Calls.mono hh ?_
    rintro e w' ⟨v', h1, h2, _, h4⟩
    obtain ⟨A, c, rfl⟩ := own_form h2
    exact ⟨A, c, h1, h2, h4⟩
theorem mclone_nil (w : World) : Calls Tryz.prog 80 #[.map none] w fun e w' => e = .returned (.map none) ∧ w' = w := by
  have h := AnyW.maps_Clone_nil Lay.clone w
  exact h
def McQ (D : DU) (w : World) (e : Ending) (w' : World) : Prop := ∃ m, e = .returned (.map m) ∧ MapAt w' Tryz.prog 9 (plainElem Tryz.prog 3) m D ∧ (∀ b, m = some b → w.heap.size ≤ b) ∧ Below w.heap.size w w'
theorem mclone_map (w : World) (m : Option Nat) (D : DU) (h : MapAt w Tryz.prog 9 (plainElem Tryz.prog 3) m D) : Calls Tryz.prog 80 #[.map m] w (McQ D w) := by
  cases m with
  | none =>
    refine (mclone_nil w).mono ?_
    rintro e w' ⟨rfl, rfl⟩
    exact ⟨none, rfl, h, (fun b hb => by cases hb), Below.refl _ _⟩
  | some b =>
    refine (clone_owns (plainElem Tryz.prog 3) b _ D w h).mono ?_
    rintro e w' ⟨rfl, h1, _, hb⟩
    exact ⟨_, rfl, h1, (fun b hb => by cases hb; exact Nat.le_refl _), hb⟩
theorem ch_one (l : List Ch) : ∀ u ∈ l.flatMap Ch.cells, u.oneCell' = true := by
  intro u hu
  obtain ⟨c, _, hc⟩ := List.mem_flatMap.1 hu
  unfold Ch.cells at hc
  simp only [List.mem_cons, List.not_mem_nil, or_false] at hc
  rcases hc with rfl | rfl | rfl <;> rfl
theorem byte_one (l : List UInt8) : ∀ u ∈ l.map byteV, u.oneCell' = true := by
  intro u hu
  obtain ⟨n, _, rfl⟩ := List.mem_map.1 hu
  rfl
/-- atomic.Int64.Store. -/
theorem store_any (d i : Nat) (m : Int) (u : Value) (w : World) (hc : w.cell? ⟨d, i, none⟩ = some u) (hf : w.frozen? ⟨d, i, none⟩ = false) :
    Calls Tryz.prog 82 #[.pointer (some ⟨d, i, none⟩), .int .i64 m] w fun e w' => e = .returned (.tuple #[]) ∧ w.setCell ⟨d, i, none⟩ (.int .i64 m) = w' := by
  have hl := run_call_store (P := Tryz.prog) Tryz.func121 (by kernel_rfl) (by kernel_rfl) (by kernel_rfl) (by kernel_rfl) (w := w) (a := ⟨d, i, none⟩) (k := .i64) (y := m) (u := u) hc hf
  go_enter Tryz.func82, Tryz.ntmps82
  go_wp2
  go_end0
  exact ⟨rfl, rfl⟩

/-! ### half made -/
structure CSt (S : AS) (w wx : World) (a b : Option (Option Nat)) (c : Option Value) (m : Option Nat) : Prop where
  fr : Fr No w wx
  nm : ∀ x, a = some x → MapAt wx Tryz.prog 9 (plainElem Tryz.prog 3) x S.names ∧ (∀ k, x = some k → w.heap.size ≤ k) ∧ x ≠ none
  fm : ∀ x, b = some x → MapAt wx Tryz.prog 9 (plainElem Tryz.prog 3) x S.firm ∧ ∀ k, x = some k → w.heap.size ≤ k
  lv : ∀ v, c = some v → wx.ownsRow w.heap.size 108 3 v S.loose.length (S.loose.flatMap Ch.cells)
  mp : ∀ k, m = some k → wx.ownsMap Tryz.prog 3 ptrElem k 0 (.map []) ∧ w.heap.size ≤ k
  ab : ∀ k, a = some (some k) → b ≠ some (some k)
  am : ∀ k, a = some (some k) → m ≠ some k
  bm : ∀ k, b = some (some k) → m ≠ some k
theorem CSt.start (S : AS) (w wx : World) (h : Fr No w wx) : CSt S w wx none none none none :=
  ⟨h, (fun _ e => by cases e), (fun _ e => by cases e), (fun _ e => by cases e), (fun _ e => by cases e), (fun _ e => by cases e), (fun _ e => by cases e), (fun _ e => by cases e)⟩
theorem CSt.step {S : AS} {w wx wy : World} {a b : Option (Option Nat)} {c : Option Value} {m : Option Nat} (h : CSt S w wx a b c m) (hb : Fr No wx wy) : CSt S w wy a b c m :=
  ⟨h.fr.no hb, fun x e => ⟨(h.nm x e).1.of fun k hk => hb.block k ((h.nm x e).1.lt k hk) id, (h.nm x e).2⟩, fun x e => ⟨(h.fm x e).1.of fun k hk => hb.block k ((h.fm x e).1.lt k hk) id, (h.fm x e).2⟩,
    fun v e => own_of (h.lv v e) fun k hk => hb.block k ((h.lv v e).lt k hk).2 id, fun k e => ⟨owns_of (h.mp k e).1 (hb.block k (World.ownsMap.lt (h.mp k e).1) id), (h.mp k e).2⟩, h.ab, h.am, h.bm⟩
theorem CSt.ltA {S : AS} {w wx : World} {a b : Option (Option Nat)} {c : Option Value} {m : Option Nat} (h : CSt S w wx a b c m) {k : Nat} (e : a = some (some k)) : k < wx.heap.size := (h.nm _ e).1.lt k rfl
theorem CSt.ltB {S : AS} {w wx : World} {a b : Option (Option Nat)} {c : Option Value} {m : Option Nat} (h : CSt S w wx a b c m) {k : Nat} (e : b = some (some k)) : k < wx.heap.size := (h.fm _ e).1.lt k rfl
theorem CSt.ltM {S : AS} {w wx : World} {a b : Option (Option Nat)} {c : Option Value} {m : Option Nat} (h : CSt S w wx a b c m) {k : Nat} (e : m = some k) : k < wx.heap.size := World.ownsMap.lt (h.mp k e).1
theorem CSt.alloc {S : AS} {w wx : World} {a b : Option (Option Nat)} {c : Option Value} (h : CSt S w wx a b c none) : CSt S w (wx.alloc (.map #[] 0)) a b c (some wx.heap.size) := by
  have f : Fr No wx (wx.alloc (.map #[] 0)) := (Fr.refl _ wx).alloc _
  have g := h.step f
  refine ⟨g.fr, g.nm, g.fm, g.lv, fun k e => ?_, g.ab, fun k e e2 => ?_, fun k e e2 => ?_⟩
  · cases e
    exact ⟨World.ownsMap_made (H := Unit) wx Tryz.prog 3 ptrElem, h.fr.size⟩
  · cases e2; exact absurd (h.ltA e) (Nat.lt_irrefl _)
  · cases e2; exact absurd (h.ltB e) (Nat.lt_irrefl _)
theorem CSt.callA {S : AS} {w wx : World} {R : Rp} {d nb : Nat} (hA : At w d R S) (hnm : R.nm = some nb) {b : Option (Option Nat)} {c : Option Value} {m : Option Nat} (h : CSt S w wx none b c m) :
    Calls Tryz.prog 80 #[.map R.nm] wx fun e w' => ∃ x, e = .returned (.map x) ∧ CSt S w w' (some x) b c m := by
  have hn0 := (hA.keep h.fr).names
  rw [hnm] at hn0 ⊢
  refine (clone_owns (plainElem Tryz.prog 3) nb _ S.names wx hn0).mono ?_
  rintro e w' ⟨rfl, h1, _, h3⟩
  have h2 : ∀ k, some wx.heap.size = some k → wx.heap.size ≤ k := fun k hk => by cases hk; exact Nat.le_refl _
  have g := h.step (Fr.of_below h3)
  refine ⟨some wx.heap.size, rfl, g.fr, fun y e => ?_, g.fm, g.lv, g.mp, fun k e e2 => ?_, fun k e e2 => ?_, g.bm⟩
  · cases e; exact ⟨h1, fun k hk => Nat.le_trans h.fr.size (h2 k hk), by simp⟩
  · cases e; exact absurd (h.ltB e2) (Nat.lt_irrefl _)
  · cases e; exact absurd (h.ltM e2) (Nat.lt_irrefl _)
theorem CSt.callB {S : AS} {w wx : World} {R : Rp} {d : Nat} (hA : At w d R S) {a : Option (Option Nat)} {c : Option Value} {m : Option Nat} (h : CSt S w wx a none c m) :
    Calls Tryz.prog 80 #[.map R.fm] wx fun e w' => ∃ x, e = .returned (.map x) ∧ CSt S w w' a (some x) c m := by
  refine (mclone_map wx R.fm S.firm (hA.keep h.fr).firm).mono ?_
  rintro e w' ⟨x, rfl, h1, h2, h3⟩
  have g := h.step (Fr.of_below h3)
  refine ⟨x, rfl, g.fr, g.nm, fun y e => ?_, g.lv, g.mp, fun k e e2 => ?_, g.am, fun k e e2 => ?_⟩
  · cases e; exact ⟨h1, fun k hk => Nat.le_trans h.fr.size (h2 k hk)⟩
  · cases e2; have := h2 k rfl; have := h.ltA e; omega
  · cases e; have := h2 k rfl; have := h.ltM e2; omega
theorem CSt.callC {S : AS} {w wx : World} {R : Rp} {d : Nat} (hA : At w d R S) (hn : S.loose.length ≤ 1000000000000) {a b : Option (Option Nat)} {m : Option Nat} (h : CSt S w wx a b none m) :
    Calls Tryz.prog 81 #[R.lv] wx fun e w' => ∃ A c, e = .returned (.slice A S.loose.length c) ∧ CSt S w w' a b (some (.slice A S.loose.length c)) m := by
  refine (cclone_any wx R.lv _ _ (hA.keep h.fr).loose hn (ch_one _)).mono ?_
  rintro e w' ⟨A, c, rfl, h1, h2⟩
  have g := h.step (Fr.of_below h2)
  refine ⟨A, c, rfl, g.fr, g.nm, g.fm, fun v e => ?_, g.mp, g.ab, g.am, g.bm⟩
  cases e
  exact own_base h1 h.fr.size
end Go.Proofs.YtccjkolcmdhliaaGreatDoor
