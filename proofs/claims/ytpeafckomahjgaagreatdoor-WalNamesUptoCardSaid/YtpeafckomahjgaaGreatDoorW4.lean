/- The log: write. -/
import Derived.Test.YtpeafckomahjgaaGreatDoorW3
import Derived.StillTailTactics
import Derived.Deep.RegionLaw
import Derived.Deep.AppendLies
import Derived.Laws.OwnMore
namespace Go.Proofs.YtpeafckomahjgaaGreatDoor
open Go.RowKit Go.Maps
set_option linter.unusedVariables false

/-- A record more, of so many bytes. -/
def LS.more (L : LS) (m : Nat) : LS := { L with last := L.last + 1, size := L.size + m, bytes := true }
def LS.put (L : LS) (m : Nat) : LS :=
  match L.files.getLast? with
  | some s => if s.n = L.number then { L.more m with files := L.files.dropLast ++ [⟨s.n, L.last + 1⟩] } else { L.more m with files := L.files ++ [⟨L.number, L.last + 1⟩], names := true }
  | none => { L.more m with files := L.files ++ [⟨L.number, L.last + 1⟩], names := true }
def writeL (S : AS) (L : LS) (r : List UInt8) : AS × LS × Int :=
  if (S.write (nameW L.number) r).2 = 0 then ((S.write (nameW L.number) r).1, L.put r.length, 0) else ((S.write (nameW L.number) r).1, L.said (S.write (nameW L.number) r).2, (S.write (nameW L.number) r).2)

/-- The last segment's cells. -/
theorem segflat_at (fs : List SegP) (s : SegP) : ((fs ++ [s]).flatMap SegP.cells)[fs.length * 2]? = some (.int .i64 s.n) ∧ ((fs ++ [s]).flatMap SegP.cells)[fs.length * 2 + 1]? = some (.int .i64 s.last) := by
  have hl : (fs.flatMap SegP.cells).length = fs.length * 2 := by
    induction fs with
    | nil => rfl
    | cons a l ih => rw [List.flatMap_cons, List.length_append, ih]; simp [SegP.cells]; omega
  rw [List.flatMap_append]
  constructor
  · rw [List.getElem?_append_right (by omega), hl, Nat.sub_self]; rfl
  · rw [List.getElem?_append_right (by omega), hl, show fs.length * 2 + 1 - fs.length * 2 = 1 by omega]; rfl
theorem segflat_set (fs : List SegP) (s : SegP) (u : Int) : ((fs ++ [s]).flatMap SegP.cells).set (fs.length * 2 + 1) (.int .i64 u) = (fs ++ [(⟨s.n, u⟩ : SegP)]).flatMap SegP.cells := by
  have hl : (fs.flatMap SegP.cells).length = fs.length * 2 := by
    induction fs with
    | nil => rfl
    | cons a l ih => rw [List.flatMap_cons, List.length_append, ih]; simp [SegP.cells]; omega
  rw [List.flatMap_append, List.flatMap_append, List.set_append_right _ _ (by omega), hl, show fs.length * 2 + 1 - fs.length * 2 = 1 by omega]
  rfl
theorem Lg.lastSeg {w : World} {X : Nat → Prop} {d g N : Nat} {S : AS} {L : LS} (h : Lg w X d g N S L) {fs : List SegP} {s : SegP} (hf : L.files = fs ++ [s]) :
    ∃ gf cap, w.cell? ⟨g, 4, none⟩ = some (.slice (some ⟨gf, 0, none⟩) (fs.length + 1) cap) ∧ fs.length + 1 ≤ cap ∧ cap ≤ maxLen ∧ w.cell? ⟨gf, fs.length * 2, none⟩ = some (.int .i64 s.n) ∧ w.cell? ⟨gf, fs.length * 2 + 1, none⟩ = some (.int .i64 s.last) ∧ w.frozen? ⟨gf, fs.length * 2 + 1, none⟩ = false ∧
      (∀ u : Int, Lg (w.setCell ⟨gf, fs.length * 2 + 1, none⟩ (.int .i64 u)) X d g N S { L with files := fs ++ [⟨s.n, u⟩] } ∧ Fr (fun k => ¬ X k) w (w.setCell ⟨gf, fs.length * 2 + 1, none⟩ (.int .i64 u))) := by
  obtain ⟨fv, hL, hd, h3, h4⟩ := h.log
  have hr := hL.row
  have hlen : L.files.length = fs.length + 1 := by rw [hf]; simp
  rw [hlen, hf] at hr
  rcases hr.2 with ⟨_, h0⟩ | ⟨gf, cap, cur, rfl, hb, hh, hnc, hcm, hs, ht⟩
  · omega
  · have hc : w.cell? ⟨g, 4, none⟩ = some (.slice (some ⟨gf, 0, none⟩) (fs.length + 1) cap) := hL.blk.cell 4
    obtain ⟨e1, e2⟩ := segflat_at fs s
    have at_ : ∀ j v, j < (fs.length + 1) * 2 → ((fs ++ [s]).flatMap SegP.cells)[j]? = some v → w.cell? ⟨gf, j, none⟩ = some v := fun j v hj hv => by
      rw [cell_of_row w gf j cur 102 (0, 0) hh, ← hv, ← ht]
      simp [hj]
    refine ⟨gf, cap, hc, hnc, hcm, at_ _ _ (by omega) e1, at_ _ _ (by omega) e2, hr.frozenAt _, fun u => ?_⟩
    obtain ⟨hs1, hs2⟩ := hr.stored (fs.length * 2 + 1) (.int .i64 u)
    rw [segflat_set] at hs1
    have hne : gf ≠ g := hL.ne gf rfl
    have hxg : ¬ X gf := h4 gf rfl
    have hfr : Fr (One gf) w (w.setCell ⟨gf, fs.length * 2 + 1, none⟩ (.int .i64 u)) := Fr.set0 gf w _ _
    have hx : Fr (fun k => ¬ X k) w (w.setCell ⟨gf, fs.length * 2 + 1, none⟩ (.int .i64 u)) := hfr.mono fun k _ hk => by rw [show k = gf from hk]; exact hxg
    refine ⟨⟨h.vr.x h.lo hx, h.lo, ⟨.slice (some ⟨gf, 0, none⟩) (fs.length + 1) cap, ⟨hL.blk.of (Below.heap_setCell _ _ _ _ (Ne.symm hne)), by simpa using hs1⟩, hd.side (hfr.mono fun k _ hk => .inr (.inr (by rw [show k = gf from hk]; rfl))), h3, h4⟩, ?_, h.big⟩, hx⟩
    have := h.ok.files
    exact ⟨h.ok.last, h.ok.firm, h.ok.number, h.ok.size, by simp only [List.length_append, List.length_singleton]; omega⟩
theorem info102 : (Tryz.prog.info? 102).map (fun i => (i.zero, i.size, i.bytes)) = some (some (.agg #[.int .i64 0, .int .i64 0]), 2, 16) := by kernel_rfl
/-- What one segment more leaves. -/
theorem Lg.addSeg {w : World} {X : Nat → Prop} {d g N : Nat} {S : AS} {L : LS} (h : Lg w X d g N S L) (hfl : L.files.length < 64 + N) :
    ∃ A c, w.cell? ⟨g, 4, none⟩ = some (.slice A L.files.length c) ∧ w.ownsRow 0 102 2 (.slice A L.files.length c) L.files.length (L.files.flatMap SegP.cells) ∧ g < w.heap.size ∧
      ∀ (s : SegP) (o : Obj) (w3 : World) (gg cap : Nat), ((w.alloc o).drew).grownBy w3 (Value.slice A L.files.length c).ownBlock → w3.ownsRow 0 102 2 (.slice (some ⟨gg, 0, none⟩) (L.files.length + 1) cap) (L.files.length + 1) (L.files.flatMap SegP.cells ++ [.int .i64 s.n, .int .i64 s.last]) →
        ((Value.slice A L.files.length c).ownBlock = some gg ∨ gg = w.heap.size + 1) →
        w3.cell? ⟨g, 4, none⟩ = some (.slice A L.files.length c) ∧ w3.frozen? ⟨g, 4, none⟩ = false ∧
        Lg (w3.setCell ⟨g, 4, none⟩ (.slice (some ⟨gg, 0, none⟩) (L.files.length + 1) cap)) X d g N S { L with files := L.files ++ [s] } ∧ Fr (fun k => ¬ X k) w (w3.setCell ⟨g, 4, none⟩ (.slice (some ⟨gg, 0, none⟩) (L.files.length + 1) cap)) := by
  obtain ⟨fv, hL, hd, h3, h4⟩ := h.log
  have hform : ∃ A c, fv = .slice A L.files.length c := by
    rcases hL.row.2 with ⟨e1, h0⟩ | ⟨gf, cap, cur, e1, _⟩
    · exact ⟨none, 0, by rw [h0]; exact e1⟩
    · exact ⟨_, _, e1⟩
  obtain ⟨A, c, rfl⟩ := hform
  refine ⟨A, c, hL.blk.cell 4, hL.row, hL.blk.lt, fun s o w3 gg cap hg ho hat => ?_⟩
  have hgl := hL.blk.lt
  have hne : (Value.slice A L.files.length c).ownBlock ≠ some g := fun e => hL.ne g e rfl
  have hb3 : Blk w3 g 71 (L.cells d (.slice A L.files.length c)) := hL.blk.of ((hg.block g (by simp; omega) (fun e => hne e.symm)).trans (Below.heap_alloc w o g hgl))
  have hgg : gg ≠ g := own_blk_ne ho rfl hb3 (by decide)
  obtain ⟨fv', hfv'⟩ : ∃ fv', (Value.slice (some ⟨gg, 0, none⟩) (L.files.length + 1) cap) = fv' := ⟨_, rfl⟩
  have hf3 : Fr (fun k => k = g ∨ (Value.slice A L.files.length c).ownBlock = some k) w w3 := (((Fr.refl _ w).alloc o).drew).grown hg fun k hk _ => .inr hk
  have hf : Fr (fun k => k = g ∨ (Value.slice A L.files.length c).ownBlock = some k) w (w3.setCell ⟨g, 4, none⟩ fv') := hf3.setCell (p := ⟨g, 4, none⟩) (fun _ => .inl rfl) _
  have hx : Fr (fun k => ¬ X k) w (w3.setCell ⟨g, 4, none⟩ fv') := hf.mono fun k _ hk => by
    rcases hk with rfl | hk
    · exact h3
    · exact h4 k hk
  have hggx : ¬ X gg := by
    rcases hat with e | e
    · exact h4 gg e
    · intro hxx
      have := hd.base gg (.inl hxx)
      omega
  have hrow : (w3.setCell ⟨g, 4, none⟩ fv').ownsRow 0 102 2 fv' (L.files ++ [s]).length ((L.files ++ [s]).flatMap SegP.cells) := by
    rw [← hfv']
    have := own_of ho (w' := w3.setCell ⟨g, 4, none⟩ (.slice (some ⟨gg, 0, none⟩) (L.files.length + 1) cap)) (fun k hk => Below.heap_setCell _ _ _ _ (by
      simp [Value.ownBlock] at hk; subst hk; exact hgg))
    rw [List.length_append, List.flatMap_append]
    simpa [SegP.cells] using this
  have hdd : Dk (w3.setCell ⟨g, 4, none⟩ fv') (XL X g fv') d N S := hd.grow (hf.mono fun k _ hk => by
    rcases hk with rfl | hk
    · exact .inr (.inl rfl)
    · exact .inr (.inr hk)) fun k hk => by
      rcases hk with hk | rfl | hk
      · exact ⟨Nat.lt_of_lt_of_le (hd.base k (.inl hk)) hf.size, .inl (.inl hk)⟩
      · exact ⟨Nat.lt_of_lt_of_le hgl hf.size, .inl (.inr (.inl rfl))⟩
      · refine ⟨(hrow.lt k hk).2, ?_⟩
        have e : gg = k := by rw [← hfv'] at hk; simpa [Value.ownBlock] using hk
        rcases hat with e2 | e2
        · exact .inl (.inr (.inr (by rw [← e]; exact e2)))
        · exact .inr (by omega)
  rw [hfv']
  refine ⟨hb3.cell 4, hb3.frozen 4, ⟨h.vr.x h.lo hx, h.lo, ⟨fv', ⟨hb3.set_ 4 _, hrow⟩, hdd, h3, fun k hk => ?_⟩, ?_, h.big⟩, hx⟩
  · have e : gg = k := by rw [← hfv'] at hk; simpa [Value.ownBlock] using hk
    rw [← e]; exact hggx
  · exact ⟨h.ok.last, h.ok.firm, h.ok.number, h.ok.size, by simp only [List.length_append, List.length_singleton]; omega⟩
set_option maxRecDepth 100000 in
set_option maxHeartbeats 2000000 in
theorem writeL_any {w : World} {X : Nat → Prop} {d g N : Nat} {S : AS} {L : LS} (h : Lg w X d g N S L) (hN : N + 1 ≤ 1000000000) (r : List UInt8) (hr : r.length ≤ 1000000) (hlast : L.last < 9223372036854775807) : Calls Tryz.prog 68 #[gpt g, sv r] w fun e w' => e = .returned (.int .i64 (writeL S L r).2.2) ∧ Lg w' X d g (N + 1) (writeL S L r).1 (writeL S L r).2.1 ∧ Fr (fun k => ¬ X k) w w' := by
  have H := Lib.hid h
  obtain ⟨fv, c0, c1, c2, c3, c4, c5, c6, c7, c8⟩ := h.cells
  have hn := h.ok.num64 h.big
  have HD := Lib.hid (h.keep ((Fr.refl No w).drew))
  have HN := Lib.hid (name_any L.number w.drew (h.keep ((Fr.refl No w).drew)).vr hn.1 hn.2)
  have HRm : Hid (r.length ≤ maxLen) := Lib.hid (by unfold maxLen; omega)
  have hm := me_write
  have hok := h.ok
  have hbig := h.big
  have HV : Hid (writeL S L r = if (S.write (nameW L.number) r).2 = 0 then ((S.write (nameW L.number) r).1, L.put r.length, 0) else ((S.write (nameW L.number) r).1, L.said (S.write (nameW L.number) r).2, (S.write (nameW L.number) r).2)) := Lib.hid rfl
  have HOK := Lib.hid hok
  have hsize := hok.size
  unfold gpt
  clear h hn hok c1 c2 c3 c4 c6 c7 c8
  go_enter Tryz.func68, Tryz.ntmps68
  go_upto_region 1 with fail
  go_cut [5] (fun ev wx => ev = .int .i64 (S.write (nameW L.number) r).2 ∧ Lg wx X d g (N + 1) (S.write (nameW L.number) r).1 (L.said (S.write (nameW L.number) r).2) ∧ Fr (fun k => ¬ X k) w wx)
  case first =>
    go_region_held3 (fun w' => w'.cell? ⟨g, 0, none⟩ = some (.iface 25 (.pointer (some ⟨d, 0, none⟩))) ∧ w'.cell? ⟨g, 5, none⟩ = some (.int .i64 L.number))
      (first | exact HL3.out.two (said_same L _).2.1 | exact HL2.out.two rfl | exact HL1.out.two rfl | exact HD.out.two rfl | go_keep)
      (first
        | (go_at_call 28; refine HN.out.mono ?_; rintro e w1 ⟨rfl, f1⟩; have HL1 := Lib.hid (HD.out.keep f1); have HF1 := Lib.hid f1; clear f1)
        | (go_at_call 27; refine (lg_write HL1.out hN (nameW L.number) r (nameW_max _) HRm.out).mono ?_; rintro e w2 ⟨rfl, h2, f2⟩; have HL2 := Lib.hid h2; have HF2 := Lib.hid f2; clear h2 f2)
        | (go_at_call 60; refine (said_any HL2.out _).mono ?_; rintro e w3 ⟨rfl, h3, f3⟩; have HL3 := Lib.hid h3; have HF3 := Lib.hid f3; clear h3 f3))
    all_goals (go_simp; go_wp2_with fail)
    all_goals go_meet
    all_goals exact ⟨rfl, HL3.out, ((((Fr.refl (fun k => ¬ X k) w).drew.trans HF1.out fun _ _ hk => hk.elim).thenX HF2.out).thenX HF3.out)⟩
  case rest =>
  obtain ⟨rfl, hL, hF⟩ := hcut
  have HLL := Lib.hid hL
  have HFF := Lib.hid hF
  clear hL hF HN HD hm
  generalize (S.write (nameW L.number) r).1 = S1 at *
  generalize (S.write (nameW L.number) r).2 = E at *
  by_cases he : E = 0
  · rw [he, said_zero] at HLL
    rw [if_pos he] at HV
    subst he
    obtain ⟨fv', d0, d1, d2, d3, d4, d5, d6, d7, d8⟩ := HLL.out.cells
    have y2 := HLL.out.frozen 2
    have hw1 : IntKind.i64.wrap (L.last + 1) = L.last + 1 := IntWalk.i64_in _ (by have := HOK.out.last; omega)
    have hw2 : IntKind.i64.wrap (L.size + (r.length : Int)) = L.size + (r.length : Int) := IntWalk.i64_in _ (by omega)
    have hok1 := HLL.out.ok
    have hS2 := HLL.out.set 2 (.int .i64 (L.last + 1)) { L with last := L.last + 1 } (fun _ => rfl) rfl ⟨by simp only; have := hok1.last; omega, hok1.firm, hok1.number, hok1.size, hok1.files⟩
    obtain ⟨w2, hw2⟩ : ∃ w2, wc.setCell ⟨g, 2, none⟩ (.int .i64 (L.last + 1)) = w2 := ⟨_, rfl⟩
    rw [hw2] at hS2
    have hok2 := hS2.1.ok
    have hS3 := hS2.1.set 6 (.int .i64 (L.size + (r.length : Int))) { L with last := L.last + 1, size := L.size + r.length } (fun _ => rfl) rfl ⟨hok2.last, hok2.firm, hok2.number, by simp only; omega, hok2.files⟩
    obtain ⟨w3, hw3⟩ : ∃ w3, w2.setCell ⟨g, 6, none⟩ (.int .i64 (L.size + (r.length : Int))) = w3 := ⟨_, rfl⟩
    rw [hw3] at hS3
    have hok3 := hS3.1.ok
    have hS4 := hS3.1.set 7 (.bool true) (L.more r.length) (fun _ => rfl) rfl ⟨hok3.last, hok3.firm, hok3.number, hok3.size, hok3.files⟩
    obtain ⟨w4, hw4⟩ : ∃ w4, w3.setCell ⟨g, 7, none⟩ (.bool true) = w4 := ⟨_, rfl⟩
    rw [hw4] at hS4
    have HS := Lib.hid hS4.1
    have HFX := Lib.hid ((hS2.2.thenX hS3.2).thenX hS4.2)
    have HW2 := Lib.hid hw2
    have HW3 := Lib.hid hw3
    have HW4 := Lib.hid hw4
    have HC2 := Lib.hid hS2.1.cells
    have HY2 := Lib.hid (hS2.1.frozen 6)
    have HC3 := Lib.hid hS3.1.cells
    have HY3 := Lib.hid (hS3.1.frozen 7)
    have HFL : Hid ((L.more r.length).files.length < 64 + (N + 1)) := Lib.hid (by have := HOK.out.files; show L.files.length < _; omega)
    clear hok1 hok2 hok3 hS2 hS3 hS4 hw2 hw3 hw4 d0 d1 d3 d4 d5 d6 d7 d8 c0 c5
    go_upto_region 5 with fail
    rw [HW2.out]
    obtain ⟨fv2, e0, e1, e2, e3, e4, e5, e6, e7, e8⟩ := HC2.out
    have y6 := HY2.out
    go_upto_region 6 with fail
    rw [HW3.out]
    clear e0 e1 e2 e3 e4 e5 e6 e7 e8 d2 y2
    obtain ⟨fv3, e0, e1, e2, e3, e4, e5, e6, e7, e8⟩ := HC3.out
    have y7 := HY3.out
    go_upto_region 7 with fail
    rw [HW4.out]
    clear e0 e1 e2 e3 e4 e5 e6 e7 e8 y6 y7 HW2 HW3 HW4 HC2 HC3 HY2 HY3 hw1 hw2
    obtain ⟨fv4, d0, d1, d2, d3, d4, d5, d6, d7, d8⟩ := HS.out.cells
    have n5 : w4.cell? ⟨g, 5, none⟩ = some (.int .i64 L.number) := d5
    have n2 : w4.cell? ⟨g, 2, none⟩ = some (.int .i64 (L.last + 1)) := d2
    clear d0 d1 d3 d6 d7 d8 d4 d2 d5
    rcases List.eq_nil_or_concat L.files with hf | ⟨fs, s, hf⟩
    · have hnx : L.put r.length = { L.more r.length with files := (L.more r.length).files ++ [⟨L.number, L.last + 1⟩], names := true } := by
        unfold LS.put LS.more
        rw [hf]
        rfl
      have hl0 : (L.more r.length).files.length = 0 := by show L.files.length = 0; rw [hf]; rfl
      obtain ⟨A0, c00, q40, _⟩ := HS.out.addSeg HFL.out
      rw [hl0] at q40
      have HL0 := Lib.hid hl0
      clear hl0 hf
      go_upto_region 8 with fail
      clear q40
      go_quiet (fail)
      have HNX := Lib.hid hnx
      clear hnx
      all_goals
        have HSq0 := HS.out.keep ((Fr.refl No w4).drewN nq)
        have HFQ0 : Fr (fun k => ¬ X k) w4 (w4.drewN nq) := (Fr.refl _ w4).drewN nq
        obtain ⟨wq, hwq⟩ : ∃ wq, w4.drewN nq = wq := ⟨_, rfl⟩
        rw [hwq] at HSq0 HFQ0 ⊢
        have HSq := Lib.hid HSq0
        have HFQ := Lib.hid HFQ0
        clear hwq HSq0 HFQ0
        obtain ⟨i0, hi0, hz0, hz1, hz2⟩ := info_parts info102
        obtain ⟨A, c, q4, hrow, hgl, hadd⟩ := HSq.out.addSeg HFL.out
        obtain ⟨fvq, d0, d1, d2, d3, d4, d5, d6, d7, d8⟩ := HSq.out.cells
        have d5' : wq.cell? ⟨g, 5, none⟩ = some (.int .i64 L.number) := d5
        have d2' : wq.cell? ⟨g, 2, none⟩ = some (.int .i64 (L.last + 1)) := d2
        clear d0 d1 d2 d3 d4 d5 d6 d7 d8
        have HROW := Lib.hid hrow
        have HADD := Lib.hid (hadd ⟨L.number, L.last + 1⟩)
        have hnl := HFL.out
        clear hrow hadd
        obtain ⟨nn, hnn⟩ : ∃ nn, (L.more r.length).files.length = nn := ⟨_, rfl⟩
        rw [hnn] at q4 HROW HADD hnl
        clear hnn
        go_upto_region 11 with fail
        go_region_law (first | (refine step_append_lies _ (by rfl) _ _ _ (by rfl) 0 102 i0 _ 2 16 Tryz.underlying69 hi0 hz0 hz1 hz2 rfl (by omega) (.slice A nn c) _ _ (by rfl) ((HROW.out.alloc _).drew) ⟨wq.heap.size, 0, none⟩ 1 1 [.int .i64 L.number, .int .i64 (L.last + 1)] (by rfl) (by rfl) (World.news_of_block (cs := #[.int .i64 L.number, .int .i64 (L.last + 1)]) (t := 102) (fr := (0, 0)) (heap_alloc_new wq _)) (by simp [Value.oneCell']) (by omega) (by unfold maxLen; omega) (by omega) (by simp) (wq.heap.size + 1) (by simp) ?_; intro gg cap w5 hown3 hgrow hat hlt; have q7 := (HADD.out _ _ _ _ hgrow hown3 hat).1; have qf := (HADD.out _ _ _ _ hgrow hown3 hat).2.1; have HE := Lib.hid (HADD.out _ _ _ _ hgrow hown3 hat).2.2; clear hgrow hown3 hat))
        all_goals
          obtain ⟨w6, hw6⟩ : ∃ w6, w5.setCell ⟨g, 4, none⟩ (.slice (some ⟨gg, 0, none⟩) (nn + 1) cap) = w6 := ⟨_, rfl⟩
          rw [hw6] at HE
          obtain ⟨fv6, x0, x1, x2, x3, x4, x5, x6, x7, x8⟩ := HE.out.1.cells
          have y8 := HE.out.1.frozen 8
          have HE8 := Lib.hid (HE.out.1.set 8 (.bool true) { L.more r.length with files := (L.more r.length).files ++ [⟨L.number, L.last + 1⟩], names := true } (fun _ => rfl) rfl ⟨HE.out.1.ok.last, HE.out.1.ok.firm, HE.out.1.ok.number, HE.out.1.ok.size, HE.out.1.ok.files⟩)
          have HW6 := Lib.hid hw6
          clear hw6 x0 x1 x2 x3 x4 x5 x6 x7 q4 d5' d2' q7 qf
          go_upto_region 12 with fail
          rw [HW6.out]
          go_wp2
          go_ret
          exact ⟨by rw [HV.out]; rfl, by rw [HV.out]; show Lg _ X d g (N + 1) S1 (L.put r.length); rw [HNX.out]; exact HE8.out.1, (((HFF.out.thenX HFX.out).thenX HFQ.out).thenX HE.out.2).thenX HE8.out.2⟩
    · rw [List.concat_eq_append] at hf
      obtain ⟨gf, cap, q4, hnc, hcm, k0, k1, kf, _⟩ := HS.out.lastSeg (fs := fs) (s := s) (show (L.more r.length).files = fs ++ [s] from hf)
      have hfl2 : fs.length < 64 + (N + 1) := by have h1 := HFL.out; have h2 : (L.more r.length).files.length = fs.length + 1 := by show L.files.length = _; rw [hf]; simp
                                                 omega
      obtain ⟨q, hq⟩ : ∃ q, fs.length + 1 = q := ⟨_, rfl⟩
      obtain ⟨m, hm⟩ : ∃ m, fs.length = m := ⟨_, rfl⟩
      have hwq : IntKind.i64.wrap ((q : Int) - 1) = (m : Int) := by rw [show (q : Int) - 1 = (m : Int) by omega]; exact IntWalk.i64_in _ (by omega)
      have b1 : (0 : Int) ≤ (m : Int) := by omega
      have b2 : (m : Int) < (q : Int) := by omega
      have b3 : (q : Int) ≤ 1000000100 := by omega
      have t1 : decide ((0 : Int) < (q : Int)) = true := by simp; omega
      have t2 : decide (0 < q) = true := by simp; omega
      rw [hq] at q4
      rw [hm] at k0 k1 kf
      have HQ := Lib.hid hq
      have HM := Lib.hid hm
      clear hq hm hfl2 hnc hcm
      by_cases hs : s.n = L.number
      · have bs : (s.n == L.number) = true := by simpa using hs
        have hnx : L.put r.length = { L.more r.length with files := fs ++ [⟨s.n, L.last + 1⟩] } := by
          unfold LS.put
          rw [hf]
          simp only [List.getLast?_append, List.getLast?_singleton, Option.some_or, if_pos hs, List.dropLast_concat]
        have HNX := Lib.hid hnx
        have HFI := Lib.hid hf
        rw [hs] at k0
        clear hnx hf
        go_upto_region 8 with fail
        go_quiet (fail)
        all_goals
          have HSq0 := HS.out.keep ((Fr.refl No w4).drewN nq)
          have HFQ0 : Fr (fun k => ¬ X k) w4 (w4.drewN nq) := (Fr.refl _ w4).drewN nq
          obtain ⟨wq, hwq⟩ : ∃ wq, w4.drewN nq = wq := ⟨_, rfl⟩
          rw [hwq] at HSq0 HFQ0 ⊢
          have HSq := Lib.hid HSq0
          have HFQ := Lib.hid HFQ0
          clear hwq HSq0 HFQ0
          obtain ⟨gf', cap', r4, hnc, hcm, j0, j1, jf, hset⟩ := HSq.out.lastSeg (fs := fs) (s := s) (show (L.more r.length).files = fs ++ [s] from HFI.out)
          have HSET := Lib.hid (hset (L.last + 1))
          rw [HQ.out] at r4
          rw [HM.out] at j0 j1 jf HSET
          obtain ⟨fvq, d0, d1, d2, d3, d4, d5, d6, d7, d8⟩ := HSq.out.cells
          have d2' : wq.cell? ⟨g, 2, none⟩ = some (.int .i64 (L.last + 1)) := d2
          clear d0 d1 d2 d3 d4 d5 d6 d7 d8 hset hnc hcm q4 k0 k1 kf
          go_upto_region 9 with fail
          go_still_tail 12, (by kernel_rfl)
          change wpList _ _ _ _ _ (World.drew _)
          go_wp2
          go_ret
          exact ⟨by rw [HV.out]; rfl, by rw [HV.out]; show Lg _ X d g (N + 1) S1 (L.put r.length); rw [HNX.out]; exact HSET.out.1.keep ((Fr.refl No _).drew), ((HFF.out.thenX HFX.out).thenX HFQ.out).thenX (HSET.out.2.drew)⟩
      · have bs : (s.n == L.number) = false := by simpa using hs
        have hnx : L.put r.length = { L.more r.length with files := (L.more r.length).files ++ [⟨L.number, L.last + 1⟩], names := true } := by
          unfold LS.put
          rw [hf]
          simp only [List.getLast?_append, List.getLast?_singleton, Option.some_or, if_neg hs]
          rw [show (L.more r.length).files = L.files from rfl, hf]
        have HNX := Lib.hid hnx
        clear hnx hf hs
        go_upto_region 8 with fail
        go_quiet (fail)
        all_goals
          clear q4 k0 k1 kf
          have HSq0 := HS.out.keep ((Fr.refl No w4).drewN nq)
          have HFQ0 : Fr (fun k => ¬ X k) w4 (w4.drewN nq) := (Fr.refl _ w4).drewN nq
          obtain ⟨wq, hwq⟩ : ∃ wq, w4.drewN nq = wq := ⟨_, rfl⟩
          rw [hwq] at HSq0 HFQ0 ⊢
          have HSq := Lib.hid HSq0
          have HFQ := Lib.hid HFQ0
          clear hwq HSq0 HFQ0
          obtain ⟨i0, hi0, hz0, hz1, hz2⟩ := info_parts info102
          obtain ⟨A, c, q4, hrow, hgl, hadd⟩ := HSq.out.addSeg HFL.out
          obtain ⟨fvq, d0, d1, d2, d3, d4, d5, d6, d7, d8⟩ := HSq.out.cells
          have d5' : wq.cell? ⟨g, 5, none⟩ = some (.int .i64 L.number) := d5
          have d2' : wq.cell? ⟨g, 2, none⟩ = some (.int .i64 (L.last + 1)) := d2
          clear d0 d1 d2 d3 d4 d5 d6 d7 d8
          have HROW := Lib.hid hrow
          have HADD := Lib.hid (hadd ⟨L.number, L.last + 1⟩)
          have hnl := HFL.out
          clear hrow hadd
          obtain ⟨nn, hnn⟩ : ∃ nn, (L.more r.length).files.length = nn := ⟨_, rfl⟩
          rw [hnn] at q4 HROW HADD hnl
          clear hnn
          go_upto_region 11 with fail
          go_region_law (first | (refine step_append_lies _ (by rfl) _ _ _ (by rfl) 0 102 i0 _ 2 16 Tryz.underlying69 hi0 hz0 hz1 hz2 rfl (by omega) (.slice A nn c) _ _ (by rfl) ((HROW.out.alloc _).drew) ⟨wq.heap.size, 0, none⟩ 1 1 [.int .i64 L.number, .int .i64 (L.last + 1)] (by rfl) (by rfl) (World.news_of_block (cs := #[.int .i64 L.number, .int .i64 (L.last + 1)]) (t := 102) (fr := (0, 0)) (heap_alloc_new wq _)) (by simp [Value.oneCell']) (by omega) (by unfold maxLen; omega) (by omega) (by simp) (wq.heap.size + 1) (by simp) ?_; intro gg cap w5 hown3 hgrow hat hlt; have q7 := (HADD.out _ _ _ _ hgrow hown3 hat).1; have qf := (HADD.out _ _ _ _ hgrow hown3 hat).2.1; have HE := Lib.hid (HADD.out _ _ _ _ hgrow hown3 hat).2.2; clear hgrow hown3 hat))
          all_goals
            obtain ⟨w6, hw6⟩ : ∃ w6, w5.setCell ⟨g, 4, none⟩ (.slice (some ⟨gg, 0, none⟩) (nn + 1) cap) = w6 := ⟨_, rfl⟩
            rw [hw6] at HE
            obtain ⟨fv6, x0, x1, x2, x3, x4, x5, x6, x7, x8⟩ := HE.out.1.cells
            have y8 := HE.out.1.frozen 8
            have HE8 := Lib.hid (HE.out.1.set 8 (.bool true) { L.more r.length with files := (L.more r.length).files ++ [⟨L.number, L.last + 1⟩], names := true } (fun _ => rfl) rfl ⟨HE.out.1.ok.last, HE.out.1.ok.firm, HE.out.1.ok.number, HE.out.1.ok.size, HE.out.1.ok.files⟩)
            have HW6 := Lib.hid hw6
            clear hw6 x0 x1 x2 x3 x4 x5 x6 x7 q4 d5' d2' q7 qf
            go_upto_region 12 with fail
            rw [HW6.out]
            go_wp2
            go_ret
            exact ⟨by rw [HV.out]; rfl, by rw [HV.out]; show Lg _ X d g (N + 1) S1 (L.put r.length); rw [HNX.out]; exact HE8.out.1, (((HFF.out.thenX HFX.out).thenX HFQ.out).thenX HE.out.2).thenX HE8.out.2⟩
  · rw [if_neg he] at HV
    have hd : (E != 0) = true := by simpa using he
    clear he
    go_wp2
    go_ret
    exact ⟨by rw [HV.out]; rfl, by rw [HV.out]; exact HLL.out, HFF.out⟩
end Go.Proofs.YtpeafckomahjgaaGreatDoor
