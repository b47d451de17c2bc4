/- awake; DictNil walked. -/
import Derived.Test.YtlglfcadoofmpaaA9
namespace Go.Proofs.Ytlglfcadoofmpaa
open Go.RowKit Go.Maps Go.Proofs
set_option linter.unusedVariables false

theorem ord_awake : Ord [[98], [97]] [1, 0] := ⟨by decide, by
  refine List.Pairwise.cons ?_ (List.Pairwise.cons (by simp) List.Pairwise.nil)
  intro b hb
  rw [List.mem_singleton.1 hb]
  decide⟩
theorem put1 : putL [] [98] = [[98]] ∧ putN [] [98] = 0 ∧ putE [] [98] = 0 := by decide
theorem put2 : putL [[98]] [97] = [[98], [97]] ∧ putN [[98]] [97] = 1 ∧ putE [[98]] [97] = 0 := by decide
theorem put3 : putL [[98], [97]] [98] = [[98], [97]] ∧ putN [[98], [97]] [98] = 0 ∧ putE [[98], [97]] [98] = 0 := by decide
theorem btw_awake : btw [[98], [97]] [1, 0] [97] [98] = [1] := by decide

def Seen (B d : Nat) (L : List Tx) (w : World) : Prop := Dt w (Bel B) d L
/-- Behind a call, seen from the start. -/
theorem belt {w0 w w' : World} {B : Nat} (hB : B ≤ w.heap.size) (h0 : Below B w0 w) (h : Fr (NX (Bel B)) w w') : Below B w0 w' := h0.trans (bel_below hB h)

set_option maxRecDepth 100000 in
set_option maxHeartbeats 4000000 in
theorem awake_any (w : World) : Calls Try.prog 8 #[] w fun e w' => e = .returned (.bool true) ∧ Below w.heap.size w w' := by
  go_enter Try.func8, Try.ntmps8
  go_wp2_with fail
  refine (m_new w).mono ?_
  rintro e w1 ⟨rfl, h1, f1⟩
  obtain ⟨d, hd⟩ : ∃ d, w.heap.size = d := ⟨_, rfl⟩
  obtain ⟨B, hB⟩ : ∃ B, w.heap.size = B := ⟨_, rfl⟩
  have B1 := Fr.below f1
  have s1 := B1.size
  rw [show Bel w.heap.size = Bel B from by rw [hB]] at h1
  rw [hd] at h1 ⊢
  have hBB : Hid (w.heap.size = B) := Lib.hid hB
  have HB1 : Hid (Below B w w1 ∧ B ≤ w1.heap.size) := Lib.hid ⟨hB ▸ B1, hB ▸ s1⟩
  have HD1 := Lib.hid h1
  clear hd hB B1 s1 h1 f1
  go_wp2_with fail
  refine (m_put HD1.out [98] (by decide)).mono ?_
  rintro e w2 ⟨rfl, h2, f2⟩
  rw [put1.1] at h2
  rw [put1.2.1, put1.2.2]
  have HB2 : Hid (Below B w w2 ∧ B ≤ w2.heap.size) := Lib.hid ⟨belt HB1.out.2 HB1.out.1 f2, Nat.le_trans HB1.out.2 f2.size⟩
  have HD2 := Lib.hid h2
  clear h2 f2 HD1 HB1
  go_wp2_with fail
  refine (m_put HD2.out [97] (by decide)).mono ?_
  rintro e w3 ⟨rfl, h3, f3⟩
  rw [put2.1] at h3
  rw [put2.2.1, put2.2.2]
  have HB3 : Hid (Below B w w3 ∧ B ≤ w3.heap.size) := Lib.hid ⟨belt HB2.out.2 HB2.out.1 f3, Nat.le_trans HB2.out.2 f3.size⟩
  have HD3 := Lib.hid h3
  clear h3 f3 HD2 HB2
  go_wp2_with fail
  refine (m_put HD3.out [98] (by decide)).mono ?_
  rintro e w4 ⟨rfl, h4, f4⟩
  rw [put3.1] at h4
  rw [put3.2.1, put3.2.2]
  have HB4 : Hid (Below B w w4 ∧ B ≤ w4.heap.size) := Lib.hid ⟨belt HB3.out.2 HB3.out.1 f4, Nat.le_trans HB3.out.2 f4.size⟩
  have HD4 := Lib.hid h4
  clear h4 f4 HD3 HB3
  go_wp2_with fail
  refine (m_sorted HD4.out).mono ?_
  rintro e w5 ⟨v, l, rfl, hl, ho, h5, f5⟩
  have el : l = [1, 0] := hl.unique ord_awake
  subst el
  obtain ⟨gl, cl, rfl, hgl, hcl⟩ := own_cells ho (by decide)
  have HB5 : Hid (Below B w w5 ∧ B ≤ w5.heap.size) := Lib.hid ⟨belt HB4.out.2 HB4.out.1 f5, Nat.le_trans HB4.out.2 f5.size⟩
  have HD5 := Lib.hid (h5.less (Y := fun k => Bel B k ∨ k = gl) (fun k hk => by
    rcases hk with hk | hk
    · exact .inl hk
    · exact .inr (by rw [hk]; rfl)))
  have HL5 : Hid (w5.cell? ⟨gl, 0, none⟩ = some (.int .i64 1)) := Lib.hid ((hcl 0 (by decide)).1)
  clear h5 f5 HD4 HB4 hl ho hcl
  simp only [List.length_cons, List.length_nil, Nat.zero_add, Nat.reduceAdd]
  go_wp2_with fail
  refine (m_rank HD5.out 0 (by decide)).mono ?_
  rintro e w6 ⟨T, k, rfl, hO, hk, h6, f6⟩
  have eT : T = [1, 0] := hO.unique ord_awake
  subst eT
  have ek : k = 1 := by
    rcases k with _ | _ | k
    · simp at hk
    · rfl
    · simp at hk
  subst ek
  have f6' : Fr (NX (Bel B)) w5 w6 := f6.mono fun k _ hk hb => hk (.inl hb)
  have HB6 : Hid (Below B w w6 ∧ B ≤ w6.heap.size) := Lib.hid ⟨belt HB5.out.2 HB5.out.1 f6', Nat.le_trans HB5.out.2 f6.size⟩
  have hl6 : w6.cell? ⟨gl, 0, none⟩ = some (.int .i64 1) := by
    rw [← HL5.out]
    simp only [World.cell?]
    rw [f6.block gl (World.block_lt_of_cell? _ _ HL5.out) (fun hn => hn (.inr rfl))]
  have HD6 := Lib.hid h6
  clear h6 f6 f6' HD5 HB5 hO hk HL5
  go_wp2_with fail
  refine (m_text HD6.out 1 (by decide)).mono ?_
  rintro e w7 ⟨rfl, rfl⟩
  have et : encT (txt [[98], [97]] 1) = .string ⟨#[97]⟩ := rfl
  rw [et]
  have HL := Lib.hid (m_len HD6.out)
  have hb := m_between HD6.out [97] [98]
  have HBT : Hid (Calls Try.prog 19 #[.pointer (some ⟨d, 0, none⟩), .string ⟨#[97]⟩, .string ⟨#[98]⟩] w6 (fun e w' => ∃ v, e = .returned v ∧ (∃ A c, v = .slice A 1 c) ∧ Below B w w')) := Lib.hid (hb.mono (by
    rintro e w' ⟨v, l, rfl, hl, ho, h7, f7⟩
    have el : l = [1] := (hl _ ord_awake).trans btw_awake
    subst el
    exact ⟨v, rfl, own_form ho, belt HB6.out.2 HB6.out.1 (f7.mono fun k _ hk hb => hk (.inl hb))⟩))
  clear hb HB6 HD6
  go_wp2_with (first
    | (go_at_call 11; refine HL.out.mono ?_; rintro e w' ⟨rfl, rfl⟩)
    | (go_at_call 19; refine HBT.out.mono ?_; rintro e w' ⟨v, rfl, ⟨A, c, rfl⟩, hbb⟩))
  go_ret
  exact ⟨rfl, by rw [hBB.out]; exact hbb⟩

/-! ### DictNil -/
theorem put4 : putN [] [120] = 0 ∧ putE [] [120] = 0 := by decide
set_option maxRecDepth 100000 in
set_option maxHeartbeats 4000000 in
theorem dictNil_any (s : ByteArray) (n : Int) (w : World) : Calls Try.prog 6 #[.string s, .int .i64 n] w fun e w' => e = .returned (.bool true) ∧ Below w.heap.size w w' := by
  obtain ⟨d, hd⟩ : ∃ d, w.heap.size = d := ⟨_, rfl⟩
  obtain ⟨w1, hw1⟩ : ∃ w1, w.alloc (.cells zeroD 65) = w1 := ⟨_, rfl⟩
  have h1 := dt_zero w
  have b1 : Below w.heap.size w w1 := by rw [← hw1]; exact ((Fr.refl No w).alloc _).below
  rw [hw1, hd] at h1
  rw [hd] at b1
  have HW1 := Lib.hid hw1
  have HDD := Lib.hid hd
  have HD1 := Lib.hid h1
  have HB1 := Lib.hid b1
  unfold zeroD at HW1
  clear h1 b1 hw1 hd
  go_enter Try.func6, Try.ntmps6
  go_upto_region 3 with fail
  rw [HW1.out, HDD.out]
  go_wp2_with (first
    | (go_at_call 16; refine (find_nil _ _).mono ?_; rintro e w' ⟨rfl, rfl⟩)
    | (go_at_call 17; refine (text_out _ _ _ (has_nil _ _)).mono ?_; rintro e w' ⟨rfl, rfl⟩)
    | (go_at_call 18; refine (rank_out _ _ _ (has_nil _ _)).mono ?_; rintro e w' ⟨rfl, rfl⟩)
    | (go_at_call 15; (with_reducible refine (put_nil _ _).mono ?_); rintro e w' ⟨rfl, rfl⟩))
  refine (m_put HD1.out [120] (by decide)).mono ?_
  rintro e w2 ⟨rfl, h2, f2⟩
  rw [put4.1, put4.2]
  have HB2 : Hid (Below d w w2 ∧ d ≤ w2.heap.size) := Lib.hid ⟨belt (by have := HB1.out.size; have := HDD.out; omega) HB1.out f2, by have := HB1.out.size; have := HDD.out; have := f2.size; omega⟩
  clear h2 f2 HB1 HD1
  go_wp2_with (first
    | (go_at_call 8; refine (awake_any _).mono ?_; rintro e w3 ⟨rfl, h3⟩; have HB3 : Hid (Below d w w3) := Lib.hid (HB2.out.1.trans (h3.mono HB2.out.2)); clear h3)
    | (go_at_call 11; refine (len_nil _).mono ?_; rintro e w' ⟨rfl, rfl⟩)
    | (go_at_call 13; refine (sorted_nil _).mono ?_; rintro e w' ⟨rfl, rfl⟩)
    | (go_at_call 19; refine (between_nil _ _ _).mono ?_; rintro e w' ⟨rfl, rfl⟩)
    | (go_at_call 20; refine (copy_nil _).mono ?_; rintro e w' ⟨rfl, rfl⟩))
  go_ret
  exact ⟨rfl, by rw [HDD.out]; exact HB3.out⟩
end Go.Proofs.Ytlglfcadoofmpaa
