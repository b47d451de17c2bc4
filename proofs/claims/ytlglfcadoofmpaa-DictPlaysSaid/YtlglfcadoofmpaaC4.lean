/- The document's dictionary: Between, Put. -/
import Derived.Test.YtlglfcadoofmpaaC3
namespace Go.Proofs.Ytlglfcadoofmpaa
open Go.RowKit Go.Maps Go.Proofs
set_option linter.unusedVariables false

section
variable {B r : Nat} {lv : Value} {L : List Tx} {T : List Nat} {w : World}
set_option maxRecDepth 100000 in
set_option maxHeartbeats 4000000 in
theorem r_between (h : Rt B r lv L w) (hL : L.length ≤ 4096) (htx : ∀ t ∈ L, t.length ≤ 64) (hT : Ord L T) (lo hi : Tx) (hlo : lo.length ≤ maxLen) (hhi : hi.length ≤ maxLen) :
    Calls Try.prog 22 #[.pointer (some ⟨r, 0, none⟩), .string ⟨lo.toArray⟩, .string ⟨hi.toArray⟩] w (RListQ (btw L T lo hi) w) := by
  have HS := Lib.hid (r_sorted h hL htx hT)
  have HH := Lib.hid h
  have HT := Lib.hid hT
  have HX := Lib.hid htx
  have HL := Lib.hid hL
  have HLO := Lib.hid hlo
  have HHI := Lib.hid hhi
  clear h hL htx hT hlo hhi
  go_enter Try.func22, Try.ntmps22
  go_wp2_with fail
  refine HS.out.mono ?_
  rintro e w1 ⟨v8, rfl, ho8, f1⟩
  obtain ⟨m, hm⟩ : ∃ m, T.length = m := ⟨_, rfl⟩
  have hmL : L.length = m := by rw [← HT.out.len, hm]
  have hm4 : m ≤ 4096 := by have := HL.out; omega
  rw [hm] at ho8
  obtain ⟨A8, c8, e8⟩ := own_form ho8
  subst e8
  have HO8 := Lib.hid ho8
  have HF1 := Lib.hid f1
  have HM := Lib.hid hm
  have HML := Lib.hid hmL
  have HSZ := Lib.hid f1.size
  clear ho8 f1 hm hmL HS
  go_wp2
  go_loopw [7, 9] (fun ov iv wr => ∃ i : Nat, iv = .int .i64 i ∧ i ≤ m ∧ Hid (wr.ownsRow w1.heap.size 3 1 ov (btw L (T.take i) lo hi).length ((btw L (T.take i) lo hi).map encN)) ∧ Hid (Fr No w1 wr)) (fun _ iv _ => m - (intOf iv).toNat)
  case atStart => exact ⟨0, rfl, Nat.zero_le _, Lib.hid (by simp [btw]; exact World.ownsRow_nil _ _ _ _), Lib.hid (Fr.refl _ _)⟩
  case round =>
    obtain ⟨i, rfl, hi', HR, HF⟩ := hrel
    by_cases hlt : i < m
    · have hiT : i < T.length := by rw [HM.out]; exact hlt
      obtain ⟨n, hn⟩ : ∃ n, T[i]? = some n := ⟨_, List.getElem?_eq_getElem hiT⟩
      have hnL : n < L.length := HT.out.lt (List.mem_of_getElem? hn)
      have hnm : n < m := by rw [HML.out] at hnL; exact hnL
      have h2 := HH.out.keep (HF1.out.trans HF.out fun _ _ h => h)
      obtain ⟨g, c, -, c0, hc⟩ := h2.cells (by omega)
      rw [HML.out] at c0
      have cx := hc n hnL
      have ho := own_of HO8.out (w' := wr) fun j hj => HF.out.block j (HO8.out.lt j hj).2 id
      obtain ⟨g8, c8', e8, _, hc8⟩ := own_cells ho (by omega)
      injection e8 with e1 _ e2
      subst e1 e2
      have ct : wr.cell? ⟨g8, i, none⟩ = some (.int .i64 n) := (hc8 i hlt).1.trans (by rw [List.getElem?_map, hn]; rfl)
      have hxl : (txt L n).length ≤ 64 := by rw [txt_get hnL]; exact HX.out _ (List.getElem_mem hnL)
      have hbt := btw_next (L := L) (lo := lo) (hi := hi) hn
      have HCL : Hid (∀ W, Calls Try.prog 34 #[.string ⟨(txt L n).toArray⟩, .string ⟨lo.toArray⟩] W (LessQ (Op.bytesLess (txt L n) lo) W)) := Lib.hid fun W => less_any ⟨(txt L n).toArray⟩ ⟨lo.toArray⟩ W (size_le (by unfold maxLen; omega)) (size_le HLO.out)
      have HCH : Hid (∀ W, Calls Try.prog 34 #[.string ⟨(txt L n).toArray⟩, .string ⟨hi.toArray⟩] W (LessQ (Op.bytesLess (txt L n) hi) W)) := Lib.hid fun W => less_any ⟨(txt L n).toArray⟩ ⟨hi.toArray⟩ W (size_le (by unfold maxLen; omega)) (size_le HHI.out)
      have HBT := Lib.hid hbt
      have HCT := Lib.hid ct
      have HCX := Lib.hid cx
      have HC0 := Lib.hid c0
      have hlb : (btw L (T.take i) lo hi).length ≤ 4096 := by
        have h3 : (btw L (T.take i) lo hi).length ≤ (T.take i).length := by unfold btw; exact List.length_filter_le _ _
        rw [List.length_take] at h3; omega
      have HLB := Lib.hid hlb
      clear h2 hc ho hc8 hiT hn hnL hxl hbt hlb
      unfold encT at cx HCX
      generalize txt L n = tn at *
      generalize Op.bytesLess tn lo = b1 at *
      generalize Op.bytesLess tn hi = b2 at *
      go_upto_region 6 with fail
      go_quiet ((go_at_call 34; exact Calls.quiet_of (HCL.out _)))
      go_upto_region 7 with fail
      obtain ⟨w5, hw5⟩ : ∃ w5, wr.drewN nq = w5 := ⟨_, rfl⟩
      have f5 : Fr No wr w5 := by rw [← hw5]; exact (Fr.refl No wr).drewN nq
      have c0 : w5.cell? ⟨r, 0, none⟩ = some (.slice (some ⟨g, 0, none⟩) m c) := by rw [← hw5]; exact HC0.out
      have cx : w5.cell? ⟨g, n, none⟩ = some (.string ⟨tn.toArray⟩) := by rw [← hw5]; exact HCX.out
      have ct : w5.cell? ⟨g8, i, none⟩ = some (.int .i64 n) := by rw [← hw5]; exact HCT.out
      have HF5 := Lib.hid f5
      rw [hw5]
      clear hw5 f5
      go_quiet ((go_at_call 34; exact Calls.quiet_of (HCH.out _)))
      go_upto_region 8 with fail
      obtain ⟨w6, hw6⟩ : ∃ w6, w5.drewN nq = w6 := ⟨_, rfl⟩
      have f6 : Fr No w5 w6 := by rw [← hw6]; exact (Fr.refl No w5).drewN nq
      have ct : w6.cell? ⟨g8, i, none⟩ = some (.int .i64 n) := by rw [← hw6]; exact ct
      have hwr6 : Fr No wr w6 := HF5.out.trans f6 fun _ _ h => h
      have HF6 := Lib.hid (HF.out.trans hwr6 fun _ _ h => h)
      have HR6 := Lib.hid (own_of HR.out (w' := w6) fun j hj => hwr6.block j (HR.out.lt j hj).2 id)
      rw [hw6]
      clear hw6 f6 hwr6 HF HR HCL HCH c0 cx HC0 HCX HCT HF5
      have no : (!b1 && b2) = false → Hid (w6.ownsRow w1.heap.size 3 1 u7 (btw L (T.take (i + 1)) lo hi).length ((btw L (T.take (i + 1)) lo hi).map encN)) := fun hb => Lib.hid (by
        rw [HBT.out, hb, if_neg (by decide), List.append_nil]; exact HR6.out)
      have HNO := Lib.hid no
      clear no
      cases b1 with
      | true =>
        go_wp2
        go_roundw
        case rel => exact ⟨i + 1, by go_num, by omega, HNO.out rfl, HF6⟩
        case measure => simp [intOf]; omega
      | false =>
        cases b2 with
        | false =>
          go_wp2
          go_roundw
          case rel => exact ⟨i + 1, by go_num, by omega, HNO.out rfl, HF6⟩
          case measure => simp [intOf]; omega
        | true =>
          obtain ⟨v', w7, hr, ho, f, hv⟩ := app_one (x := .int .i64 n) Try.underlying35 info3 rfl (by omega) HR6.out HF6.out.size rfl (by have := HLB.out; omega)
          have HRUN := Lib.hid hr
          have HR7 : Hid (w7.ownsRow w1.heap.size 3 1 v' (btw L (T.take (i + 1)) lo hi).length ((btw L (T.take (i + 1)) lo hi).map encN)) := Lib.hid (by
            rw [HBT.out, if_pos (by decide), List.length_append, List.map_append]; exact ho)
          have HF7 : Hid (Fr No w1 w7) := Lib.hid (HF6.out.trans f fun j hj hk => by
            have := (HR6.out.lt j hk).1; omega)
          clear hr ho f hv HNO
          go_wp2_with (at_builtin; refine wpList_addr 35 rfl _ _ rfl _ _ _ _ rfl rfl (HRUN.out _) ?_)
          go_roundw
          case rel => exact ⟨i + 1, by go_num, by omega, HR7, HF7⟩
          case measure => simp [intOf]; omega
    · obtain rfl : i = m := by omega
      have hr := HR.out
      rw [← HM.out, List.take_length] at hr
      have HQ : Hid (RListQ (btw L T lo hi) w (.returned u7) wr) := Lib.hid ⟨u7, rfl, own_base hr HSZ.out, HF1.out.trans HF.out fun _ _ h => h⟩
      clear hr
      go_wp2
      go_ret
      exact HQ.out

/-! ### Put -/
def RPutQ (B r : Nat) (L : List Tx) (t : Tx) (lv : Value) (w : World) (e : Ending) (w' : World) : Prop :=
  e = .returned (.tuple #[.int .i64 (putN L t), .int .i64 (putE L t)]) ∧ ∃ lv', Rt B r lv' (putL L t) w' ∧ Fr (fun k => k = r ∨ lv.ownBlock = some k) w w' ∧ ∀ k, lv'.ownBlock = some k → lv.ownBlock = some k ∨ w.heap.size ≤ k
set_option maxRecDepth 100000 in
theorem r_put_long (t : Tx) (hl : 64 < t.length) (hm : t.length ≤ maxLen) : Calls Try.prog 25 #[.pointer (some ⟨r, 0, none⟩), .string ⟨t.toArray⟩] w (PutP 0 45 w) := by
  have hs : (⟨t.toArray⟩ : ByteArray).size = t.length := by simp [ByteArray.size]
  generalize (⟨t.toArray⟩ : ByteArray) = s at *
  have hs' : 64 < s.size := by omega
  unfold maxLen at hm
  have hs2 : s.size ≤ 9223372036854775807 := by omega
  clear hs hl hm
  go_enter Try.func25, Try.ntmps25
  go_wp2
  go_ret2
  exact ⟨rfl, rfl⟩
set_option maxRecDepth 100000 in
theorem r_put_old (h : Rt B r lv L w) (hL : L.length ≤ 1000000) (t : Tx) (hl : t.length ≤ 64) {n : Nat} (hn : num L t = some n) : Calls Try.prog 25 #[.pointer (some ⟨r, 0, none⟩), .string ⟨t.toArray⟩] w (PutP n 0 w) := by
  have hf := r_find h hL t
  rw [hn] at hf
  have HF : Hid (Calls Try.prog 21 #[.pointer (some ⟨r, 0, none⟩), .string ⟨t.toArray⟩] w (TextP (.int .i64 (n : Nat)) true w)) := Lib.hid hf
  have hs : (⟨t.toArray⟩ : ByteArray).size ≤ 64 := size_le hl
  generalize (⟨t.toArray⟩ : ByteArray) = s at *
  clear hl hn h hf
  go_enter Try.func25, Try.ntmps25
  go_wp2_with (go_at_call 21; refine HF.out.mono ?_; rintro e w' ⟨rfl, rfl⟩)
  go_ret2
  exact ⟨rfl, rfl⟩
set_option maxRecDepth 100000 in
theorem r_put_full (h : Rt B r lv L w) (t : Tx) (hl : t.length ≤ 64) (hn : num L t = none) (hL : L.length = 4096) : Calls Try.prog 25 #[.pointer (some ⟨r, 0, none⟩), .string ⟨t.toArray⟩] w (PutP 0 12 w) := by
  have hf := r_find h (by omega) t
  rw [hn] at hf
  have HF : Hid (Calls Try.prog 21 #[.pointer (some ⟨r, 0, none⟩), .string ⟨t.toArray⟩] w (TextP (.int .i64 0) false w)) := Lib.hid hf
  obtain ⟨A, c, -, c0⟩ := h.cell
  rw [hL] at c0
  have hs : (⟨t.toArray⟩ : ByteArray).size ≤ 64 := size_le hl
  generalize (⟨t.toArray⟩ : ByteArray) = s at *
  clear hl hn h hf hL
  go_enter Try.func25, Try.ntmps25
  go_wp2_with (go_at_call 21; refine HF.out.mono ?_; rintro e w' ⟨rfl, rfl⟩)
  go_ret2
  exact ⟨rfl, rfl⟩
def RPutN (B r : Nat) (L : List Tx) (t : Tx) (lv : Value) (w : World) (e : Ending) (w' : World) : Prop :=
  e = .returned (.tuple #[.int .i64 (L.length : Nat), .int .i64 0]) ∧ ∃ lv', Rt B r lv' (L ++ [t]) w' ∧ Fr (fun k => k = r ∨ lv.ownBlock = some k) w w' ∧ ∀ k, lv'.ownBlock = some k → lv.ownBlock = some k ∨ w.heap.size ≤ k
set_option maxRecDepth 100000 in
set_option maxHeartbeats 1600000 in
theorem r_put_new (h : Rt B r lv L w) (hB : B ≤ w.heap.size) (t : Tx) (hl : t.length ≤ 64) (hn : num L t = none) (hL : L.length < 4096) : Calls Try.prog 25 #[.pointer (some ⟨r, 0, none⟩), .string ⟨t.toArray⟩] w (RPutN B r L t lv w) := by
  have hf := r_find h (by omega) t
  rw [hn] at hf
  have HF : Hid (Calls Try.prog 21 #[.pointer (some ⟨r, 0, none⟩), .string ⟨t.toArray⟩] w (TextP (.int .i64 0) false w)) := Lib.hid hf
  obtain ⟨v', w7, hr, ho, f, hv⟩ := app_one (x := .string ⟨t.toArray⟩) Try.underlying27 info9 rfl (by omega) h.row hB rfl (by omega)
  obtain ⟨A7, c7, e7⟩ := own_form ho
  have hrl : r < w.heap.size := h.blk.lt
  have hnr : lv.ownBlock ≠ some r := fun e => own_blk_ne h.row e h.blk (by decide) rfl
  have hb7 : Blk w7 r 29 #[lv] := h.blk.of (f.block r hrl hnr)
  have z7 := hb7.frozen 0
  have c7' : w7.cell? ⟨r, 0, none⟩ = some lv := hb7.cell 0
  have hvr : v'.ownBlock ≠ some r := fun e => (hv r e).elim hnr (fun h => by omega)
  have hfin : RPutN B r L t lv w (.returned (.tuple #[.int .i64 (L.length : Nat), .int .i64 0])) (w7.setCell ⟨r, 0, none⟩ v') := by
    have f2 : Fr (One r) w7 (w7.setCell ⟨r, 0, none⟩ v') := Fr.set0 r w7 0 _
    refine ⟨rfl, v', ⟨hb7.set_ 0 v', ?_⟩, (f.mono fun k _ hk => .inr hk).trans f2 fun k _ hk => .inl hk, fun k hk => (hv k hk).imp id (·.1)⟩
    have e1 : (L ++ [t]).length = L.length + 1 := by simp
    have e2 : (L ++ [t]).map encT = L.map encT ++ [.string ⟨t.toArray⟩] := by simp [encT]
    rw [e1, e2]
    exact own_of ho fun k hk => f2.block k (ho.lt k hk).2 fun e => hvr (by rw [← show k = r from e]; exact hk)
  have hc8 : (w7.setCell ⟨r, 0, none⟩ v').cell? ⟨r, 0, none⟩ = some v' := (hb7.set_ 0 v').cell 0
  rw [e7] at hc8
  obtain ⟨A, c, e0, c0⟩ := h.cell
  have HFIN := Lib.hid hfin
  have HRUN := Lib.hid hr
  have HE0 := Lib.hid e0
  have HE7 := Lib.hid e7
  have HC8 := Lib.hid hc8
  rw [e0] at c7' HRUN
  rw [e7] at HRUN HFIN
  have hs : (⟨t.toArray⟩ : ByteArray).size ≤ 64 := size_le hl
  obtain ⟨s, hss⟩ : ∃ s : ByteArray, ⟨t.toArray⟩ = s := ⟨_, rfl⟩
  rw [hss] at HF HRUN hs ⊢
  clear hss hl hn h hf hr ho f hv e7 hb7 hnr hvr hfin hc8 e0
  go_enter Try.func25, Try.ntmps25
  go_wp2_with (first
    | (go_at_call 21; refine HF.out.mono ?_; rintro e w' ⟨rfl, rfl⟩)
    | (at_builtin; refine wpList_addr 27 rfl _ _ rfl _ _ _ _ rfl rfl (HRUN.out _) ?_))
  go_ret2
  exact HFIN.out
end
end Go.Proofs.Ytlglfcadoofmpaa
