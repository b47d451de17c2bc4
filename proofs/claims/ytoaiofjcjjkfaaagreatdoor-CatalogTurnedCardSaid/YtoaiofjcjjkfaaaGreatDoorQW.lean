/- CatalogTurned, whole. -/
import Derived.Test.YtoaiofjcjjkfaaaGreatDoorQQ
import Derived.Test.YtoaiofjcjjkfaaaGreatDoorQR
import Derived.Test.YtoaiofjcjjkfaaaGreatDoorQU
import Derived.Test.YtoaiofjcjjkfaaaGreatDoorQV
namespace Go.Proofs.YtoaiofjcjjkfaaaGreatDoor
open Go.RowKit Go.Maps Go.Sort
set_option linter.unusedVariables false

theorem reads_bad (s : List UInt8) (hs : s.length ≤ 1000000000) (h : (unfR s).2.2 ≠ 0) : Hid (∀ w, Calls Tryz.prog 15 #[sv s] w (RdP w (readP s).1 27)) := Lib.hid fun w => by
  have := read_ck_any s w hs
  rwa [readP_bad s h] at this
theorem catalogturned_any (c : CkP) (dv mv vv bv : Value) (at_ : Int) (by_ : Nat) (ha : i64 at_) (hby : by_ < 256) (w : World) (hv : Vr w) (hck : CkAt (fun k => k < w.heap.size) w c dv mv vv bv) :
    Calls Tryz.prog 8 #[ckv c dv mv vv bv, .int .i64 at_, .int .u8 (by_ : Int)] w fun e w' => e = .returned (.bool true) ∧ Fr No w w' := by
  by_cases hE : (bytesP (bare c)).2 = 0
  · by_cases h9 : (bytesP (bare c)).1.length < 9
    · exact turned_no c dv mv vv bv _ _ w hv hck (.inr h9)
    · obtain ⟨l, hl, hl6⟩ := bytesP_none (bare c) rfl hE
      have hFE : bytesP (bare c) = (frameR l, 0) := Prod.ext hl hE
      rw [hl] at h9
      have hlen := frameR_len l
      obtain ⟨m, hm⟩ : ∃ m, l.length + 4 = m := ⟨_, rfl⟩
      obtain ⟨k, hk, hat⟩ := at_abs at_ ha
      have hq : k % m < l.length + 4 := by rw [hm]; exact Nat.mod_lt _ (by omega)
      have hjF : 4 + k % m < (frameR l).length := by omega
      have hmI : ((frameR l).length : Int) - 4 = (m : Int) := by omega
      have hj : 4 + (k : Int) % (((frameR l).length : Int) - 4) = ((4 + k % m : Nat) : Int) := by rw [hmI]; omega
      obtain ⟨x, hxb⟩ : ∃ x, (by_ = 0 ∧ x = 1) ∨ (by_ ≠ 0 ∧ x = by_) := by
        by_cases h : by_ = 0
        · exact ⟨1, .inl ⟨h, rfl⟩⟩
        · exact ⟨by_, .inr ⟨h, rfl⟩⟩
      have hx : x < 256 ∧ x ≠ 0 := by omega
      obtain ⟨y, hy, hne⟩ := xor_byte (frameR l)[4 + k % m] x hx.1 hx.2
      have hP : (ByteArray.mk (frameR l).toArray).extract 0 (4 + k % m) = ⟨((frameR l).take (4 + k % m)).toArray⟩ := by rw [ext_list, List.drop_zero]
      have hR : (ByteArray.mk (frameR l).toArray).extract (4 + k % m + 1) (frameR l).length = ⟨((frameR l).drop (4 + k % m + 1)).toArray⟩ := by rw [ext_list, List.take_length]
      have hpl : ((frameR l).take (4 + k % m)).length ≤ 65544 := by rw [List.length_take]; omega
      have hrl : ((frameR l).drop (4 + k % m + 1)).length ≤ 65544 := by rw [List.length_drop]; omega
      have hcat1 : ∀ w0, (Op.stringOp .add ⟨((frameR l).take (4 + k % m)).toArray⟩ ⟨#[y]⟩).run Tryz.prog w0 = .ok (.string ⟨((frameR l).take (4 + k % m) ++ [y]).toArray⟩) w0 := fun w0 => run_cat _ [y] (by simp only [List.length_singleton]; omega) w0
      have hcat2 : ∀ w0, (Op.stringOp .add ⟨((frameR l).take (4 + k % m) ++ [y]).toArray⟩ ⟨((frameR l).drop (4 + k % m + 1)).toArray⟩).run Tryz.prog w0 = .ok (.string ⟨((frameR l).take (4 + k % m) ++ [y] ++ (frameR l).drop (4 + k % m + 1)).toArray⟩) w0 := fun w0 => run_cat _ _ (by simp only [List.length_append, List.length_singleton]; omega) w0
      have hu1 : (unfR ((frameR l).take (4 + k % m) ++ [y] ++ (frameR l).drop (4 + k % m + 1))).2.2 ≠ 0 := by
        have h := frame_turned l [] hl6 (k % m) hq y (by rw [List.getElem?_eq_getElem hjF]; intro e; injection e with e; exact hne e.symm)
        rw [List.append_nil] at h
        unfold tn at h
        rw [List.append_assoc, List.singleton_append, h]
        decide
      have hu2 : (unfR ((frameR l).take (4 + k % m))).2.2 ≠ 0 := by rw [unf_cutF l hl6 _ hjF]; decide
      have CR1 := reads_bad _ (by simp only [List.length_append, List.length_singleton]; omega) hu1
      have CR2 := reads_bad _ (by omega) hu2
      rcases hat with ⟨hneg, hav⟩ | ⟨hpos, hav⟩
      · rcases hxb with ⟨rfl, hx1⟩ | ⟨hb0, rfl⟩
        · exact turned_neg0 c dv mv vv bv at_ x k _ _ _ _ _ _ _ y _ _ w hv hck hFE (by omega) (by omega) hneg hav hk hj hjF hx1 hP hR rfl hy hcat1 hcat2 CR1 CR2
        · exact turned_neg1 c dv mv vv bv at_ x k _ _ _ _ _ _ _ y _ _ w hv hck hFE (by omega) (by omega) hneg hav hk hj hjF hb0 hP hR rfl hy hcat1 hcat2 CR1 CR2
      · rcases hxb with ⟨rfl, hx1⟩ | ⟨hb0, rfl⟩
        · exact turned_pos0 c dv mv vv bv at_ x k _ _ _ _ _ _ _ y _ _ w hv hck hFE (by omega) (by omega) hpos hav hk hj hjF hx1 hP hR rfl hy hcat1 hcat2 CR1 CR2
        · exact turned_pos1 c dv mv vv bv at_ x k _ _ _ _ _ _ _ y _ _ w hv hck hFE (by omega) (by omega) hpos hav hk hj hjF hb0 hP hR rfl hy hcat1 hcat2 CR1 CR2
  · exact turned_no c dv mv vv bv _ _ w hv hck (.inl hE)
end Go.Proofs.YtoaiofjcjjkfaaaGreatDoor
