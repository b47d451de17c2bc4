/- LexKinds: the reference's capitals. -/
import Derived.Test.YtaaleodffghbdaaDoorG1
namespace Go.Proofs.YtaaleodffghbdaaDoor
open Go.RowKit Go.Maps
set_option linter.unusedVariables false

theorem take_capV (s : ByteArray) (k : Nat) (hk : k < s.size) : (s.data.toList.take (k + 1)).map capV = (s.data.toList.take k).map capV ++ [.int .u8 ((capB s[k]).toNat : Nat)] := by
  have hl : k < s.data.toList.length := by rw [len_data]; exact hk
  rw [List.take_add_one, List.getElem?_eq_getElem hl, List.map_append]
  rfl
theorem capV_map (t : Tx) : t.map capV = (t.map capB).map fun b => .int .u8 (b.toNat : Nat) := by
  rw [List.map_map]; rfl
set_option maxRecDepth 100000 in
set_option maxHeartbeats 4000000 in
theorem refCaps_any (s : ByteArray) (w : World) (hs : s.size ≤ 5000) : Calls Tryd.prog 36 #[.string s] w fun e w' => e = .returned (.string ⟨(s.data.toList.map capB).toArray⟩) ∧ Fr No w w' := by
  obtain ⟨y, hy⟩ : ∃ y, w.heap.size = y := ⟨_, rfl⟩
  have HY := Lib.hid hy
  have HCV : Hid (∀ (A : Option Addr) (c : Nat) (w' : World), w'.ownsRow y 5 1 (.slice A s.size c) s.size ((s.data.toList.take s.size).map capV) → (convert 38 9 (.slice A s.size c)).run Tryd.prog w' = .ok (.string ⟨(s.data.toList.map capB).toArray⟩) w') := Lib.hid fun A c w' h => by
    rw [List.take_of_length_le (by rw [len_data]; omega), capV_map] at h
    exact conv_row _ (by rw [List.length_map, len_data]) h
  have HTK0 := Lib.hid (take_capV s)
  obtain ⟨i0, hi00, hz0, hz1, hz2⟩ := info_parts info5
  clear hy
  go_enter Tryd.func36, Tryd.ntmps36
  go_wp2
  go_loopw [3, 4, 5] (fun sv iv bv wr => ∃ (k : Nat) (A : Option Addr) (c : Nat), iv = .int .i64 (k : Nat) ∧ k ≤ s.size ∧ sv = .slice A k c ∧ Hid (wr.ownsRow y 5 1 (.slice A k c) k ((s.data.toList.take k).map capV)) ∧ Hid (Fr No w wr)) (fun _ iv _ _ => s.size - (intOf iv).toNat)
  case atStart => exact ⟨0, none, 0, rfl, Nat.zero_le _, rfl, Lib.hid ⟨rfl, .inl ⟨rfl, rfl⟩⟩, Lib.hid (Fr.refl _ _)⟩
  case round =>
    obtain ⟨k, A, c, rfl, hk, rfl, HROW, HF⟩ := hrel
    by_cases hlt : k < s.size
    · have hk0 : (0 : Int) ≤ (k : Int) := by omega
      have hk1 : (k : Int) < (s.size : Int) := by omega
      have HTK := Lib.hid (HTK0.out k hlt)
      have hb := u8_lt s[k]
      have hsz := HF.out.size
      rw [HY.out] at hsz
      have HF6 : Hid (∀ (w6 : World) (o : Obj), (wr.alloc o).grownBy w6 (Value.slice A k c).ownBlock → Fr No w w6) := Lib.hid fun w6 o hg =>
        ((HF.out.alloc o).grown hg fun q hq hql => by
          have h1 := (HROW.out.lt q hq).1
          have h2 := HY.out
          omega)
      generalize (s.data.toList.take k).map capV = R at *
      by_cases h1 : 97 ≤ s[k].toNat
      · by_cases h2 : s[k].toNat ≤ 122
        · have HV : Hid (((capB s[k]).toNat : Int) = (s[k].toNat : Int) - 32) := Lib.hid (by have := cap_small _ h1 h2; omega)
          have e1 : IntKind.u8.wrap ((s[k].toNat : Int) - 32) = (s[k].toNat : Int) - 32 := IntWalk.u8_in _ (by omega)
          have HNX : Hid ((s.data.toList.take (k + 1)).map capV = R ++ [.int .u8 ((s[k].toNat : Int) - 32)]) := Lib.hid (by rw [HTK.out, HV.out])
          go_upto_region 8 with fail
          go_wp2_with (at_builtin; refine wpList_append_lies _ (by rfl) _ _ 38 (by rfl) y 5 i0 _ 1 1 Tryd.underlying38 hi00 hz0 hz1 hz2 rfl (by omega) (.slice A k c) _ _ (by rfl) (HROW.out.alloc _) ⟨wr.heap.size, 0, none⟩ 1 1 [.int .u8 ((s[k].toNat : Int) - 32)] (by rfl) (by rfl) (World.news_of_block (cs := #[.int .u8 ((s[k].toNat : Int) - 32)]) (t := 5) (fr := (0, 0)) (heap_alloc_new wr _)) (by simp [Value.oneCell']) (by omega) (by unfold maxLen; omega) (by omega) (by simp; omega) (wr.heap.size + 1) (by simp) ?_; intro g2 cap w6 hown6 hgrow6 hat6 hlt6; have HF7 := Lib.hid (HF6.out _ _ hgrow6); have HO6 := Lib.hid hown6; clear hgrow6 hat6 hown6)
          go_roundw
          case rel => exact ⟨k + 1, some ⟨g2, 0, none⟩, cap, by go_num, by omega, rfl, Lib.hid (by rw [HNX.out]; exact HO6.out), HF7⟩
          case measure => simp [intOf]; omega
        · have HV : Hid (((capB s[k]).toNat : Int) = (s[k].toNat : Int)) := Lib.hid (by rw [cap_of _ (by omega)])
          have HNX : Hid ((s.data.toList.take (k + 1)).map capV = R ++ [.int .u8 (s[k].toNat : Int)]) := Lib.hid (by rw [HTK.out, HV.out])
          go_upto_region 8 with fail
          go_wp2_with (at_builtin; refine wpList_append_lies _ (by rfl) _ _ 38 (by rfl) y 5 i0 _ 1 1 Tryd.underlying38 hi00 hz0 hz1 hz2 rfl (by omega) (.slice A k c) _ _ (by rfl) (HROW.out.alloc _) ⟨wr.heap.size, 0, none⟩ 1 1 [.int .u8 (s[k].toNat : Int)] (by rfl) (by rfl) (World.news_of_block (cs := #[.int .u8 (s[k].toNat : Int)]) (t := 5) (fr := (0, 0)) (heap_alloc_new wr _)) (by simp [Value.oneCell']) (by omega) (by unfold maxLen; omega) (by omega) (by simp; omega) (wr.heap.size + 1) (by simp) ?_; intro g2 cap w6 hown6 hgrow6 hat6 hlt6; have HF7 := Lib.hid (HF6.out _ _ hgrow6); have HO6 := Lib.hid hown6; clear hgrow6 hat6 hown6)
          go_roundw
          case rel => exact ⟨k + 1, some ⟨g2, 0, none⟩, cap, by go_num, by omega, rfl, Lib.hid (by rw [HNX.out]; exact HO6.out), HF7⟩
          case measure => simp [intOf]; omega
      · have HV : Hid (((capB s[k]).toNat : Int) = (s[k].toNat : Int)) := Lib.hid (by rw [cap_of _ (by omega)])
        have HNX : Hid ((s.data.toList.take (k + 1)).map capV = R ++ [.int .u8 (s[k].toNat : Int)]) := Lib.hid (by rw [HTK.out, HV.out])
        go_upto_region 8 with fail
        go_wp2_with (at_builtin; refine wpList_append_lies _ (by rfl) _ _ 38 (by rfl) y 5 i0 _ 1 1 Tryd.underlying38 hi00 hz0 hz1 hz2 rfl (by omega) (.slice A k c) _ _ (by rfl) (HROW.out.alloc _) ⟨wr.heap.size, 0, none⟩ 1 1 [.int .u8 (s[k].toNat : Int)] (by rfl) (by rfl) (World.news_of_block (cs := #[.int .u8 (s[k].toNat : Int)]) (t := 5) (fr := (0, 0)) (heap_alloc_new wr _)) (by simp [Value.oneCell']) (by omega) (by unfold maxLen; omega) (by omega) (by simp; omega) (wr.heap.size + 1) (by simp) ?_; intro g2 cap w6 hown6 hgrow6 hat6 hlt6; have HF7 := Lib.hid (HF6.out _ _ hgrow6); have HO6 := Lib.hid hown6; clear hgrow6 hat6 hown6)
        go_roundw
        case rel => exact ⟨k + 1, some ⟨g2, 0, none⟩, cap, by go_num, by omega, rfl, Lib.hid (by rw [HNX.out]; exact HO6.out), HF7⟩
        case measure => simp [intOf]; omega
    · obtain rfl : k = s.size := by omega
      have hcv := HCV.out A c wr HROW.out
      go_wp2
      go_ret
      exact ⟨rfl, HF.out⟩
end Go.Proofs.YtaaleodffghbdaaDoor
