/- The library's calls that the dictionary makes, by the shelf's contracts, at this program's numbers. -/
import Derived.Shelf.Strconv.Clone
import Derived.Test.YtmaeejojmbibnaaProg
import Derived.Test.YtmaeejojmbibnaaDA1
namespace Go.Proofs.Ytmaeejojmbibnaa
open Go.RowKit Go.Maps Go.Shelf Go.Proofs
def Lay.cloneS_ren : Go.Shelf.Ren := ⟨fun | 316 => 58 | n => n, fun | 9 => 9 | 3 => 3 | 4 => 4 | 37 => 47 | 0 => 0 | 127 => 113 | 5 => 5 | n => n, fun | n => n⟩
theorem Lay.cloneS : Go.Proofs.LaysM.n316 Try.prog Lay.cloneS_ren where
  mixed := by kernel_rfl
  f316 := Try.func58.trans (congrArg some (by kernel_rfl))
  t0 := Try.underlying0
  a0 := Try.isAgg0
  z0 := Try.sizeOf0
  v0 := Try.zeroValue0
  t3 := Try.underlying3
  a3 := Try.isAgg3
  z3 := Try.sizeOf3
  v3 := Try.zeroValue3
  t4 := Try.underlying4
  a4 := Try.isAgg4
  z4 := Try.sizeOf4
  v4 := Try.zeroValue4
  t9 := Try.underlying9
  a9 := Try.isAgg9
  z9 := Try.sizeOf9
  v9 := Try.zeroValue9
  t37 := Try.underlying47
  a37 := Try.isAgg47
  z37 := Try.sizeOf47
  v37 := Try.zeroValue47
  t127 := Try.underlying113
  a127 := Try.isAgg113
  z127 := Try.sizeOf113
  v127 := Try.zeroValue113
  t5 := Try.underlying5
  a5 := Try.isAgg5
  z5 := Try.sizeOf5
  v5 := Try.zeroValue5
  i0 := by kernel_rfl
  i3 := by kernel_rfl
  i4 := by kernel_rfl
  i5 := by kernel_rfl
  i9 := by kernel_rfl
  i37 := by kernel_rfl
  i127 := by kernel_rfl
/-! ### what they say here -/
theorem size_le {l : List UInt8} {k : Nat} (h : l.length ≤ k) : (⟨l.toArray⟩ : ByteArray).size ≤ k := by simpa [ByteArray.size] using h
theorem sclone_in (l : List UInt8) (w : World) (hl : l.length ≤ 281474976710656) : Calls Try.prog 58 #[.string ⟨l.toArray⟩] w fun e w' => e = .returned (.string ⟨l.toArray⟩) ∧ Below w.heap.size w w' := by
  have h := Any.stringslite_Clone Lay.cloneS ⟨l.toArray⟩ w (size_le hl)
  exact h
set_option maxHeartbeats 400000 in
theorem sclone_any (l : List UInt8) (w : World) (hl : l.length ≤ 281474976710656) : Calls Try.prog 57 #[.string ⟨l.toArray⟩] w fun e w' => e = .returned (.string ⟨l.toArray⟩) ∧ Below w.heap.size w w' := by
  have H := Lib.hid (sclone_in l w hl)
  clear hl
  go_enter Try.func57, Try.ntmps57
  go_wp2_with (go_at_call 58; refine H.out.mono ?_; rintro e w' ⟨rfl, hb⟩)
  go_ret
  exact ⟨rfl, hb⟩

theorem info3 : (Try.prog.info? 3).map (fun i => (i.zero, i.size, i.bytes)) = some (some (.int .i64 0), 1, 8) := by kernel_rfl
theorem info9 : (Try.prog.info? 9).map (fun i => (i.zero, i.size, i.bytes)) = some (some (.string ⟨#[]⟩), 1, 16) := by kernel_rfl

end Go.Proofs.Ytmaeejojmbibnaa
