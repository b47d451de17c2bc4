/- The library's calls that the dictionary makes, by the shelf's contracts, at this program's numbers. -/
import Derived.Shelf.Small.Strs
import Derived.Shelf.Strconv.Clone
import Derived.Shelf.SlicesE.Clone
import Derived.Test.YtlglfcadoofmpaaProg
import Derived.Test.YtlglfcadoofmpaaA1
namespace Go.Proofs.Ytlglfcadoofmpaa
open Go.RowKit Go.Maps Go.Shelf Go.Proofs
def Lay.cmp_ren : Go.Shelf.Ren := ⟨fun | 106 => 39 | 213 => 50 | 265 => 66 | n => n, fun | 9 => 9 | 3 => 3 | n => n, fun | n => n⟩
theorem Lay.cmp : Go.Proofs.Lays.n106 Try.prog Lay.cmp_ren where
  mixed := by kernel_rfl
  f106 := Try.func39.trans (congrArg some (by kernel_rfl))
  f213 := Try.func50.trans (congrArg some (by kernel_rfl))
  f265 := Try.func66.trans (congrArg some (by kernel_rfl))
  t3 := Try.underlying3
  a3 := Try.isAgg3
  z3 := Try.sizeOf3
  v3 := Try.zeroValue3
  t9 := Try.underlying9
  a9 := Try.isAgg9
  z9 := Try.sizeOf9
  v9 := Try.zeroValue9
def Lay.cloneS_ren : Go.Shelf.Ren := ⟨fun | 316 => 51 | n => n, fun | 9 => 9 | 3 => 3 | 4 => 4 | 37 => 49 | 0 => 0 | 127 => 104 | 5 => 5 | n => n, fun | n => n⟩
theorem Lay.cloneS : Go.Proofs.LaysM.n316 Try.prog Lay.cloneS_ren where
  mixed := by kernel_rfl
  f316 := Try.func51.trans (congrArg some (by kernel_rfl))
  t0 := Try.underlying0
  a0 := Try.isAgg0
  z0 := Try.sizeOf0
  v0 := Try.zeroValue0
  t3 := Try.underlying3
  a3 := Try.isAgg3
  z3 := Try.sizeOf3
  v3 := Try.zeroValue3
  t4 := Try.underlying4
  a4 := Try.isAgg4
  z4 := Try.sizeOf4
  v4 := Try.zeroValue4
  t9 := Try.underlying9
  a9 := Try.isAgg9
  z9 := Try.sizeOf9
  v9 := Try.zeroValue9
  t37 := Try.underlying49
  a37 := Try.isAgg49
  z37 := Try.sizeOf49
  v37 := Try.zeroValue49
  t127 := Try.underlying104
  a127 := Try.isAgg104
  z127 := Try.sizeOf104
  v127 := Try.zeroValue104
  t5 := Try.underlying5
  a5 := Try.isAgg5
  z5 := Try.sizeOf5
  v5 := Try.zeroValue5
  i0 := by kernel_rfl
  i3 := by kernel_rfl
  i4 := by kernel_rfl
  i5 := by kernel_rfl
  i9 := by kernel_rfl
  i37 := by kernel_rfl
  i127 := by kernel_rfl
def Lay.cloneI_ren : Go.Shelf.Ren := ⟨fun | 41 => 28 | n => n, fun | 22 => 35 | 23 => 3 | 4 => 4 | n => n, fun | n => n⟩
theorem Lay.cloneI : Go.Proofs.SlLaysE0.n41 Try.prog Lay.cloneI_ren where
  mixed := by kernel_rfl
  f41 := ⟨Try.f28.name, by decide, Try.func28.trans (congrArg some (by kernel_rfl))⟩
  t4 := Try.underlying4
  a4 := Try.isAgg4
  z4 := Try.sizeOf4
  v4 := Try.zeroValue4
  t22 := Try.underlying35
  a22 := Try.isAgg35
  z22 := Try.sizeOf35
  v22 := Try.zeroValue35
def Lay.cloneT_ren : Go.Shelf.Ren := ⟨fun | 41 => 32 | n => n, fun | 22 => 27 | 23 => 9 | 4 => 4 | n => n, fun | n => n⟩
theorem Lay.cloneT : Go.Proofs.SlLaysE0.n41 Try.prog Lay.cloneT_ren where
  mixed := by kernel_rfl
  f41 := ⟨Try.f32.name, by decide, Try.func32.trans (congrArg some (by kernel_rfl))⟩
  t4 := Try.underlying4
  a4 := Try.isAgg4
  z4 := Try.sizeOf4
  v4 := Try.zeroValue4
  t22 := Try.underlying27
  a22 := Try.isAgg27
  z22 := Try.sizeOf27
  v22 := Try.zeroValue27

/-! ### what they say here -/
theorem size_le {l : List UInt8} {k : Nat} (h : l.length ≤ k) : (⟨l.toArray⟩ : ByteArray).size ≤ k := by simpa [ByteArray.size] using h
theorem compare_any (a b : List UInt8) (w : World) : Calls Try.prog 39 #[.string ⟨a.toArray⟩, .string ⟨b.toArray⟩] w fun e w' => e = .returned (.int .i64 (Lib.compareBytes a b)) ∧ w' = w := by
  have h := Any.strings_Compare Lay.cmp ⟨a.toArray⟩ ⟨b.toArray⟩ w
  exact h
theorem sclone_in (l : List UInt8) (w : World) (hl : l.length ≤ 281474976710656) : Calls Try.prog 51 #[.string ⟨l.toArray⟩] w fun e w' => e = .returned (.string ⟨l.toArray⟩) ∧ Below w.heap.size w w' := by
  have h := Any.stringslite_Clone Lay.cloneS ⟨l.toArray⟩ w (size_le hl)
  exact h
set_option maxHeartbeats 400000 in
theorem sclone_any (l : List UInt8) (w : World) (hl : l.length ≤ 281474976710656) : Calls Try.prog 40 #[.string ⟨l.toArray⟩] w fun e w' => e = .returned (.string ⟨l.toArray⟩) ∧ Below w.heap.size w w' := by
  have H := Lib.hid (sclone_in l w hl)
  clear hl
  go_enter Try.func40, Try.ntmps40
  go_wp2_with (go_at_call 51; refine H.out.mono ?_; rintro e w' ⟨rfl, hb⟩)
  go_ret
  exact ⟨rfl, hb⟩

theorem info3 : (Try.prog.info? 3).map (fun i => (i.zero, i.size, i.bytes)) = some (some (.int .i64 0), 1, 8) := by kernel_rfl
theorem info9 : (Try.prog.info? 9).map (fun i => (i.zero, i.size, i.bytes)) = some (some (.string ⟨#[]⟩), 1, 16) := by kernel_rfl

/-- slices.Clone of ints: a row of one's own. -/
theorem iclone_any (b off n c : Nat) (news : List Value) (w : World) (hl : news.length = n) (hn : n ≤ 1000000) (hc : ∀ j u, news[j]? = some u → w.cell? ⟨b, off + j, none⟩ = some u) (h1 : ∀ u ∈ news, u.oneCell' = true) :
    Calls Try.prog 28 #[.slice (some ⟨b, off, none⟩) n c] w fun e w' => ∃ v', e = .returned v' ∧ w'.ownsRow w.heap.size 3 1 v' n news ∧ Below w.heap.size w w' := by
  obtain ⟨i0, hi0, hz0, hz1, hz2⟩ := info_parts info3
  have h := AnyE.slices_Clone Lay.cloneI i0 (.int .i64 0) 1 8 hi0 hz0 hz1 hz2 rfl (by omega) (fun w => Try.sizeOf3 w) b off n c news w (by omega) (by unfold maxLen; omega) (by omega) hc h1
  exact h.mono fun e w' ⟨v', h1, h2, _, h4⟩ => ⟨v', h1, h2, h4⟩
theorem iclone_nil (w : World) : Calls Try.prog 28 #[.slice none 0 0] w fun e w' => e = .returned (.slice none 0 0) ∧ w' = w := by
  have h := AnyE.slices_Clone_nil Lay.cloneI 0 0 w
  exact h
/-- slices.Clone of texts. -/
theorem tclone_any (b off n c : Nat) (news : List Value) (w : World) (hl : news.length = n) (hn : n ≤ 1000000) (hc : ∀ j u, news[j]? = some u → w.cell? ⟨b, off + j, none⟩ = some u) (h1 : ∀ u ∈ news, u.oneCell' = true) :
    Calls Try.prog 32 #[.slice (some ⟨b, off, none⟩) n c] w fun e w' => ∃ v', e = .returned v' ∧ w'.ownsRow w.heap.size 9 1 v' n news ∧ Below w.heap.size w w' := by
  obtain ⟨i0, hi0, hz0, hz1, hz2⟩ := info_parts info9
  have h := AnyE.slices_Clone Lay.cloneT i0 (.string ⟨#[]⟩) 1 16 hi0 hz0 hz1 hz2 rfl (by omega) (fun w => Try.sizeOf9 w) b off n c news w (by omega) (by unfold maxLen; omega) (by omega) hc h1
  exact h.mono fun e w' ⟨v', h1, h2, _, h4⟩ => ⟨v', h1, h2, h4⟩
theorem tclone_nil (w : World) : Calls Try.prog 32 #[.slice none 0 0] w fun e w' => e = .returned (.slice none 0 0) ∧ w' = w := by
  have h := AnyE.slices_Clone_nil Lay.cloneT 0 0 w
  exact h
end Go.Proofs.Ytlglfcadoofmpaa
