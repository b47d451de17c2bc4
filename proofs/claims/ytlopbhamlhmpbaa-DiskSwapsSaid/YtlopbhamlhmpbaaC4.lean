/- Some answers that the document fixes. -/
import Derived.Test.YtlopbhamlhmpbaaC3
namespace Go.Proofs.Ytlopbhamlhmpbaa
open Go.RowKit Go.Maps Go.Sort
set_option linter.unusedVariables false

def AS.crashedAt (S : AS) (ps : List Int) (ks : List (List UInt8)) : AS :=
  AS.arm { AS.settled { S with names := past S (pickN ps (S.loose.length : Int)).toNat, file := (ks.foldl (crashStep (past S (pickN ps (S.loose.length : Int)).toNat)) (S.file, ps.tail)).1 } with on := true } (-1)
theorem crashed_at (S : AS) (ps : List Int) (ks : List (List UInt8)) (h : sortedKeys (past S (pickN ps (S.loose.length : Int)).toNat) = ks) : S.crashed ps = S.crashedAt ps ks := by
  unfold AS.crashed AS.crashedAt; rw [h]
theorem sorted_one {D : DU} {l : List UInt8} (h : strKeys D = [l]) : sortedKeys D = [l] := by
  unfold sortedKeys; rw [h, List.mergeSort_singleton]
theorem sorted_none {D : DU} (h : strKeys D = []) : sortedKeys D = [] := by
  unfold sortedKeys; rw [h, List.mergeSort_nil]

def lA : List UInt8 := [97]
def lHello : List UInt8 := [104, 101, 108, 108, 111]
def lXyz : List UInt8 := [120, 121, 122]
def W0 : AS := AS.new 10
def W1 : AS := (W0.write lA lHello).1
def W2 : AS := (W1.sync lA).1
def W3 : AS := W2.settle.1
def W4 : AS := (W3.write lA lXyz).1
def W5 : AS := W4.crashed [5, 2]
theorem aw1 : (W0.write lA lHello).2 = 0 := by kernel_rfl
theorem aw2 : (W1.sync lA).2 = 0 := by kernel_rfl
theorem aw3 : W2.settle.2 = 0 := by kernel_rfl
theorem aw4 : (W3.write lA lXyz).2 = 0 := by kernel_rfl
theorem aw5 : W5 = W4.crashedAt [5, 2] [lA] := crashed_at _ _ _ (sorted_one (by kernel_rfl))
theorem aw6 : W5.read lA = ([104, 101, 108, 108, 111, 120, 121], 0) := by rw [aw5]; kernel_rfl
theorem aw7 : usedOf W5.file W5.names = 7 := by rw [aw5]; kernel_rfl
theorem aw8 : W5.on = true := by rw [aw5]; kernel_rfl
theorem aw9 : W5.steps = 4 := by rw [aw5]; kernel_rfl

end Go.Proofs.Ytlopbhamlhmpbaa
