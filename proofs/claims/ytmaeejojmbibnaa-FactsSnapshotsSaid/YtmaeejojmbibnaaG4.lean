/- Match: its closure, and it. -/
import Derived.Test.YtmaeejojmbibnaaG3
import Derived.Deep.RegionWith
namespace Go.Proofs.Ytmaeejojmbibnaa
open Go.RowKit Go.Maps
set_option linter.unusedVariables false

theorem carr_list (S : FS) (g d : Nat) : ((List.range 256).map (dcol S g d)).toArray = carr (fun j => S.cn d (g * 256 + j)) := rfl
/-- The 256 cells from an address on, and that they are there. -/
def rd256 (w : World) (a : Addr) : Array Value := ((List.range 256).map fun j => (w.cell? (a.add j)).getD undef).toArray
def Has256 (w : World) (a : Addr) : Prop := ∀ j, j < 256 → (w.cell? (a.add j)).isSome = true
def cells256 (a : Addr) : Sem (Array Value) := loadCellsFrom a 0 256 #[]
theorem to256 (a : Addr) : loadCellsFrom a 0 256 #[] = cells256 a := rfl
theorem to256' (a : Addr) : loadCells a 256 = cells256 a := rfl
theorem load256 (a : Addr) (w : World) (h : Has256 w a) : (cells256 a).run Try.prog w = .ok (rd256 w a) w := by
  have h2 := run_loadCellsFrom (P := Try.prog) w a (fun j => (w.cell? (a.add j)).getD undef) 256 0 #[] (fun j hj => by
    rw [Nat.zero_add]
    have := h j hj
    cases e : w.cell? (a.add j) with
    | none => rw [e] at this; cases this
    | some v => rfl)
  simp only [Nat.zero_add] at h2
  unfold cells256 rd256
  rw [h2]
  simp
theorem rd_col {w : World} {g : Nat} {t : TypeId} {n d : Nat} {c : Nat → Nat → Value} (h : Col w g t n c) (hd : d < n) : Has256 w ⟨g, d * 256, none⟩ ∧ rd256 w ⟨g, d * 256, none⟩ = ((List.range 256).map (c d)).toArray := by
  have key : ∀ j, j < 256 → w.cell? ((⟨g, d * 256, none⟩ : Addr).add j) = some (c d j) := fun j hj => by rw [Addr.add_mid]; exact (h.cell hd hj).1
  refine ⟨fun j hj => by rw [key j hj]; rfl, ?_⟩
  unfold rd256
  congr 1
  refine List.map_congr_left fun j hj => ?_
  rw [key j (by simpa using hj)]; rfl
attribute [local go_sem ↓] to256 to256' load256
section
variable (w : World)
set_option maxRecDepth 100000 in
set_option maxHeartbeats 4000000 in
theorem match1_any (S : FS) (g sa sb K M d v x lo hi bm bd bv : Nat) (hcol : Col w sa 83 S.K (dcol S g)) (hd : d < S.K) (eK : S.K = K) (hK : K ≤ 6) (hc : ∀ p, S.cn d p < 65536) (h1 : lo ≤ hi) (h2 : hi ≤ 256) (hv : v < 65536) (hx : x ≤ 1000000)
    (cm : w.cell? ⟨bm, 0, none⟩ = some (.int .i64 x)) (zm : w.frozen? ⟨bm, 0, none⟩ = false) (cd : w.cell? ⟨bd, 0, none⟩ = some (.int .i64 d)) (cv : w.cell? ⟨bv, 0, none⟩ = some (.int .i64 v)) :
    Calls Try.prog 45 #[.agg #[.slice (some ⟨sa, 0, none⟩) K K, .slice (some ⟨sb, 0, none⟩) M M], .int .i64 lo, .int .i64 hi, .pointer (some ⟨bm, 0, none⟩), .pointer (some ⟨bd, 0, none⟩), .pointer (some ⟨bv, 0, none⟩)] w fun e w' =>
      e = .returned (.tuple #[]) ∧ w'.cell? ⟨bm, 0, none⟩ = some (.int .i64 (x + cntN (fun j => S.cn d (g * 256 + j)) v lo (hi - lo) : Nat)) ∧ w'.frozen? ⟨bm, 0, none⟩ = false ∧ Fr (One bm) w w' := by
  obtain ⟨w1, hw1⟩ : ∃ w1, w.alloc (.cells #[.slice (some ⟨sa, 0, none⟩) K K, .slice (some ⟨sb, 0, none⟩) M M] 74) = w1 := ⟨_, rfl⟩
  obtain ⟨y, hy⟩ : ∃ y, w.heap.size = y := ⟨_, rfl⟩
  have f1 : Fr No w w1 := by rw [← hw1]; exact (Fr.refl _ w).alloc _
  have hby : Blk w1 y 74 #[.slice (some ⟨sa, 0, none⟩) K K, .slice (some ⟨sb, 0, none⟩) M M] := by rw [← hw1, ← hy]; exact Blk.new w 74 _
  have y0 : w1.cell? ⟨y, 0, none⟩ = some (.slice (some ⟨sa, 0, none⟩) K K) := hby.cell 0
  have same : ∀ b, (∃ v, w.cell? ⟨b, 0, none⟩ = some v) → w1.cell? ⟨b, 0, none⟩ = w.cell? ⟨b, 0, none⟩ := by
    rintro b ⟨v, hv⟩
    exact cell_of_heap (f1.block b (World.block_lt_of_cell? _ _ hv) id)
  have m1 := (same bm ⟨_, cm⟩).trans cm
  have d1 := (same bd ⟨_, cd⟩).trans cd
  have v1 := (same bv ⟨_, cv⟩).trans cv
  have hld := (rd_col (hcol.of (f1.block sa hcol.lt id)) hd).1
  have hle1 := (rd_col (hcol.of (f1.block sa hcol.lt id)) hd).2
  have hldd : Has256 w1.drew ⟨sa, d * 256, none⟩ := hld
  have hldde : rd256 w1.drew ⟨sa, d * 256, none⟩ = rd256 w1 ⟨sa, d * 256, none⟩ := rfl
  rw [hle1, carr_list] at hldde
  clear hld hle1
  have HCN : Hid (∀ wx, Calls Try.prog 46 #[.agg (carr (fun j => S.cn d (g * 256 + j))), .int .i64 v, .int .i64 lo, .int .i64 hi] wx fun e w' => e = .returned (.int .i64 (cntN (fun j => S.cn d (g * 256 + j)) v lo (hi - lo) : Nat)) ∧ Fr No wx w') := Lib.hid fun wx => count_any wx _ (fun j => hc _) v lo hi h1 h2 hv
  have hle := cntN_le (fun j => S.cn d (g * 256 + j)) v lo (hi - lo)
  obtain ⟨k, hk⟩ : ∃ k, cntN (fun j => S.cn d (g * 256 + j)) v lo (hi - lo) = k := ⟨_, rfl⟩
  rw [hk] at HCN hle ⊢
  have hk2 : k ≤ 256 := by omega
  generalize carr (fun j => S.cn d (g * 256 + j)) = CA at *
  rw [eK] at hd
  have HW1 := Lib.hid hw1
  have HY := Lib.hid hy
  have HF1 := Lib.hid f1
  have HM : Hid (w.cell? ⟨bm, 0, none⟩ = some (.int .i64 x)) := Lib.hid cm
  have hbm : bm < w1.heap.size := World.block_lt_of_cell? _ _ m1
  have HBM := Lib.hid hbm
  have zm1 : w1.frozen? ⟨bm, 0, none⟩ = false := by
    have e := f1.block bm (World.block_lt_of_cell? _ _ cm) id
    simp only [World.frozen?] at zm ⊢
    rw [e]; exact zm
  have HZ := Lib.hid zm1
  have HF0 : Hid (Fr No w1 w1.drew) := Lib.hid (Fr.refl _ _).drew
  have hwr : IntKind.i64.wrap ((x : Int) + (k : Int)) = ((x + k : Nat) : Int) := by rw [IntKind.wrap_i64]; omega
  have HCM := Lib.hid m1
  clear hw1 hy f1 hby same cm cd cv zm hcol hc hk eK hle hbm
  go_enter Try.func45, Try.ntmps45
  go_upto_region 1 with fail
  rw [HW1.out, HY.out]
  go_region_with ((go_at_call 46; (with_reducible refine (HCN.out _).mono ?_); rintro e w2 ⟨rfl, f2⟩; have m2 : w2.cell? ⟨bm, 0, none⟩ = some (.int .i64 x) := (cell_of_heap (f2.block bm (by first | exact HBM.out | simpa using HBM.out) id)).trans HCM.out; have z2 : w2.frozen? ⟨bm, 0, none⟩ = false := (by have e := f2.block bm (by first | exact HBM.out | simpa using HBM.out) id; have hz := HZ.out; simp only [World.frozen?] at hz ⊢; rw [e]; exact hz); have F2 := Lib.hid f2; clear f2))
  all_goals first | go_end0 | (go_wp2; go_end0) | (go_wp2_with fail; go_end0)
  all_goals exact ⟨rfl, World.cell?_setCell_same _ _ _ m2, by simpa using z2, Fr.setCell (F := One bm) (p := ⟨bm, 0, none⟩) ((HF1.out.trans (HF0.out.trans F2.out fun _ _ h => h) fun _ _ h => h).any) (fun _ => rfl) _⟩
end
end Go.Proofs.Ytmaeejojmbibnaa
