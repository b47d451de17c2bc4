/- DictPlays walked. -/
import Derived.Test.YtlglfcadoofmpaaC8
namespace Go.Proofs.Ytlglfcadoofmpaa
open Go.RowKit Go.Maps Go.Proofs
set_option linter.unusedVariables false

theorem does_any (w0 : World) (B d r : Nat) (L : List Tx) (W : World) (h : Both w0 B d r L W) (k n : Int) (a b : Tx) (ha : a.length ≤ 140737488355328) (hb : b.length ≤ 140737488355328) (hL : L.length < 4096) :
    Calls Try.prog 10 #[.pointer (some ⟨d, 0, none⟩), .pointer (some ⟨r, 0, none⟩), .agg #[.int .i64 k, .int .i64 n, .string ⟨a.toArray⟩, .string ⟨b.toArray⟩]] W (DoesQ w0 B d r L) := by
  obtain ⟨X, lv, hI⟩ := h.box k n a b
  have ha' : a.length ≤ maxLen := by unfold maxLen; omega
  have hb' : b.length ≤ maxLen := by unfold maxLen; omega
  obtain ⟨t, ht⟩ : ∃ t, k.tmod 6 = t := ⟨_, rfl⟩
  by_cases h3 : t = 3 ∨ t = -3
  · exact does_find W rfl rfl hI ha' hb' t ht h3
  · by_cases h4 : t = 4 ∨ t = -4
    · exact does_text W rfl rfl hI t ht h4
    · by_cases h5 : t = 5 ∨ t = -5
      · exact does_copy W rfl rfl hI ha t ht h5
      · exact does_put W rfl rfl hI ha' t ht (by simp; omega) (by simp; omega) (by simp; omega) (by simp; omega) (by simp; omega) (by simp; omega) hL

theorem Both.keep {w0 w w' : World} {B d r : Nat} {L : List Tx} (h : Both w0 B d r L w) (f : Fr No w w') : Both w0 B d r L w' := by
  obtain ⟨X, lv, h1, hr, h2, h3, h4⟩ := h
  exact ⟨X, lv, h1.keep f, hr, belt3 h2 f, h3.keep f, h4⟩

/-- A call. -/
structure OpP where
  k : Int
  n : Int
  a : Tx
  b : Tx
  deriving Inhabited
def OpP.v (o : OpP) (j : Nat) : Option Value := (opC o.k o.n o.a o.b)[j]?
/-- v reads as the calls l; they lie below B. -/
def OAt (B : Nat) (w : World) (v : Value) (l : List OpP) : Prop :=
  l.length ≤ 9223372036854775807 ∧ (∀ o ∈ l, o.a.length ≤ 140737488355328 ∧ o.b.length ≤ 140737488355328) ∧ ∃ A c, v = .slice A l.length c ∧ (0 < l.length → ∃ g off, A = some ⟨g, off, none⟩ ∧ g < B ∧ ∀ i o, l[i]? = some o → ∀ j, j < 4 → w.cell? ⟨g, off + i * 4 + j, none⟩ = o.v j)

set_option maxRecDepth 100000 in
set_option maxHeartbeats 8000000 in
theorem plays_any (v : Value) (ops : List OpP) (w : World) (hops : OAt w.heap.size w v ops) : Calls Try.prog 3 #[v] w fun e w' => e = .returned (.bool true) ∧ Below w.heap.size w w' := by
  obtain ⟨B, hB⟩ : ∃ B, w.heap.size = B := ⟨_, rfl⟩
  rw [hB] at hops
  obtain ⟨hl9, htl, A, cc, rfl, hcell⟩ := hops
  have HBs := Lib.hid hB
  have HTL := Lib.hid htl
  have HCE := Lib.hid hcell
  clear hB htl hcell
  go_enter Try.func3, Try.ntmps3
  go_wp2_with fail
  refine (awake_any w).mono ?_
  rintro e w1 ⟨rfl, b1⟩
  have B1 : Hid (Below B w w1) := Lib.hid (by rw [← HBs.out]; exact b1)
  clear b1
  go_wp2_with fail
  refine (m_new w1).mono ?_
  rintro e w2 ⟨rfl, h2, f2⟩
  have hS := seen_new HBs.out B1.out h2 f2
  obtain ⟨d, hd⟩ : ∃ d, w1.heap.size = d := ⟨_, rfl⟩
  rw [hd] at hS ⊢
  obtain ⟨r, hr⟩ : ∃ r, w2.heap.size = r := ⟨_, rfl⟩
  obtain ⟨w3, hw3⟩ : ∃ w3, w2.alloc (.cells #[.slice none 0 0] 29) = w3 := ⟨_, rfl⟩
  have f3 : Fr No w2 w3 := by rw [← hw3]; exact (Fr.refl No w2).alloc _
  have hBo : Both w B d r [] w3 := by
    refine ⟨fun j => j < B ∨ j = r, .slice none 0 0, hS.dt.more f3 fun j hj => ?_, by rw [← hr]; exact hS.le, belt3 ⟨hS.bel, hS.le⟩ f3, ⟨by rw [← hw3, ← hr]; exact Blk.new w2 29 _, World.ownsRow_nil _ _ _ _⟩, fun j hj => ?_⟩
    · rcases hj with hj | hj
      · exact .inl hj
      · exact .inr ⟨by omega, by rw [hj, ← hr, ← hw3]; simp⟩
    · rcases hj with hj | hj | hj
      · exact .inl hj
      · exact .inr hj
      · simp [Value.ownBlock] at hj
  have HBO := Lib.hid hBo
  have HR := Lib.hid hr
  have HW3 := Lib.hid hw3
  clear hS hd h2 f2 B1 hr hw3 f3 hBo
  go_upto_region 6 with fail
  rw [HW3.out, HR.out]
  go_wp2
  go_loopw [6] (fun iv wr => ∃ (i : Nat) (L : List Tx), iv = .int .i64 i ∧ i ≤ ops.length ∧ i ≤ 200 ∧ Hid (L.length ≤ i ∧ Both w B d r L wr)) (fun iv _ => 200 - (intOf iv).toNat)
  case atStart => exact ⟨0, [], rfl, Nat.zero_le _, by omega, Lib.hid ⟨Nat.le_refl _, HBO.out⟩⟩
  case round =>
    obtain ⟨i, L, rfl, hi, hi2, HI⟩ := hrel
    clear HBO HW3 HR
    by_cases hlt : i < ops.length ∧ i < 200
    · obtain ⟨hlt1, hlt2⟩ := hlt
      obtain ⟨g, o, rfl, hg, hx⟩ := HCE.out (by omega)
      obtain ⟨op, hop⟩ : ∃ op, ops[i]? = some op := ⟨_, List.getElem?_eq_getElem hlt1⟩
      have hbel : Below B w wr := by obtain ⟨X, lv, _, _, hb, _⟩ := HI.out.2; exact hb.1
      have hxc : ∀ j, j < 4 → wr.cell? ⟨g, o + i * 4 + j, none⟩ = op.v j := fun j hj => by
        rw [← hx i op hop j hj]
        simp only [World.cell?]
        rw [hbel.block g hg]
      have x0 : wr.cell? ⟨g, o + i * 4, none⟩ = some (.int .i64 op.k) := hxc 0 (by omega)
      have x1 : wr.cell? ⟨g, o + i * 4 + 1, none⟩ = some (.int .i64 op.n) := hxc 1 (by omega)
      have x2 : wr.cell? ⟨g, o + i * 4 + 2, none⟩ = some (.string ⟨op.a.toArray⟩) := hxc 2 (by omega)
      have x3 : wr.cell? ⟨g, o + i * 4 + 3, none⟩ = some (.string ⟨op.b.toArray⟩) := hxc 3 (by omega)
      have hlen := HTL.out op (List.mem_of_getElem? hop)
      have HD := Lib.hid (does_any w B d r L wr HI.out.2 op.k op.n op.a op.b hlen.1 hlen.2 (by have := HI.out.1; omega))
      clear hx hop hbel hxc hlen
      go_wp2_with fail
      refine HD.out.mono ?_
      rintro e w4 ⟨rfl, L', hL', hB4⟩
      have HB4 := Lib.hid hB4
      obtain ⟨X, lv, h1, -, -, h3, -⟩ := hB4
      obtain ⟨A4, c4, -, c0⟩ := h3.cell
      have HLN := fun q => Lib.hid (Calls.quiet_of_same (P := Try.prog) ((m_len (h1.keep ((Fr.refl No w4).drewN q))).mono fun e w'' ⟨h1, h2⟩ => ⟨h1, h2.symm⟩))
      have HL' : Hid (L'.length ≤ i + 1) := Lib.hid (by have := HI.out.1; omega)
      clear hL' h1 h3 x0 x1 x2 x3 HD HI
      obtain ⟨m, hm⟩ : ∃ m, L'.length = m := ⟨_, rfl⟩
      rw [hm] at c0 HLN
      clear hm
      go_upto_region 10 with fail
      go_quiet ((go_at_call 11; exact (HLN _).out))
      go_wp2
      go_roundw
      case rel => exact ⟨i + 1, L', by go_num, by omega, by omega, Lib.hid ⟨HL'.out, HB4.out.keep ((Fr.refl No w4).drewN _)⟩⟩
      case measure => simp [intOf]; omega
    · have hor : ops.length ≤ i ∨ (i < ops.length ∧ 200 ≤ i) := by omega
      clear hlt
      obtain ⟨hLi, X, lv, h1, hBr, hbel, h3, h4⟩ := HI.out
      obtain ⟨T, hT⟩ := ord_exists h1.facts.1
      have HO := Lib.hid hT
      have HLT : Hid (T.length ≤ 4096) := Lib.hid (by rw [hT.len]; exact h1.facts.2.1)
      have HS := Lib.hid (st_sorted h1 hT)
      have HBEL := Lib.hid hbel
      have HRT := Lib.hid h3
      have HPX := Lib.hid h4
      have HFA := Lib.hid h1.facts
      clear h1 hBr hbel h3 h4 hT hLi HI
      go_upto_region 7 with fail
      go_cut [22] (fun bv wx => bv = .bool false ∧ wr = wx)
      case first =>
        rcases hor with h1 | ⟨h1, h2⟩
        all_goals (go_wp2; go_meet; first | exact ⟨rfl, rfl⟩ | exact ⟨by simp; omega, rfl⟩)
      case rest =>
      obtain ⟨rfl, rfl⟩ := hcut
      clear hor hi
      go_wp2_with fail
      refine HS.out.mono ?_
      rintro e w5 ⟨v1, rfl, ho1, hd5, f5⟩
      have hr5 := rt_keepX HRT.out HPX.out f5
      have HB5 := Lib.hid (belt2 HBEL.out (fun j hj => HPX.out j (.inl hj)) f5)
      have HRS := Lib.hid (r_sorted hr5 HFA.out.2.1 HFA.out.2.2 HO.out)
      have HR1 := Lib.hid ho1
      clear ho1 hd5 f5 hr5 HS
      go_wp2_with fail
      refine HRS.out.mono ?_
      rintro e w6 ⟨v2, rfl, ho2, f6⟩
      have hr1 := own_of HR1.out (w' := w6) fun j hj => f6.block j (HR1.out.lt j hj).2 id
      have HB6 := Lib.hid (belt3 HB5.out f6)
      have HSA := Lib.hid (same_true v1 v2 T w6 (LAt.own hr1 (by have := HLT.out; omega)) (LAt.own ho2 (by have := HLT.out; omega)))
      clear ho2 f6 hr1 HRS
      go_wp2_with (go_at_call 12; refine HSA.out.mono ?_; rintro e w7 ⟨rfl, f7⟩)
      go_ret
      exact ⟨rfl, by rw [HBs.out]; exact (belt3 HB6.out f7).1⟩
end Go.Proofs.Ytlglfcadoofmpaa
