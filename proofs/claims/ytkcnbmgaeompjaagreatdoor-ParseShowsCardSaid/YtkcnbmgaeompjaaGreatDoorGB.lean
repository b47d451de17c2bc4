/- Contracts of the library at this program's numbers. -/
import Derived.Shelf.Strings.Builder1
import Derived.Shelf.Strings.Builder2
import Derived.Shelf.Strings.Replace
import Derived.Test.YtkcnbmgaeompjaaGreatDoorProg
import Derived.Test.YtkcnbmgaeompjaaGreatDoorGA
import Derived.Deep.RegionWith
import Derived.Deep.LoopGhost
import Derived.WalkMore
import Derived.Laws.StructEq
namespace Go.Proofs.YtkcnbmgaeompjaaGreatDoor
open Go.Shelf Go.Proofs
def Tryz.lays155_ren : Go.Shelf.Ren := ⟨fun | 155 => 112 | 154 => 148 | 138 => 159 | 165 => 154 | 143 => 160 | 166 => 81 | 197 => 161 | 169 => 87 | 195 => 172 | 218 => 173 | 240 => 130 | 241 => 165 | 219 => 174 | 260 => 175 | 276 => 153 | 277 => 179 | 217 => 186 | 225 => 187 | 224 => 188 | 267 => 189 | 266 => 193 | 314 => 194 | n => n, fun | 9 => 9 | 3 => 3 | 4 => 4 | 72 => 114 | 0 => 0 | 76 => 117 | 105 => 162 | 21 => 21 | 5 => 5 | 70 => 111 | 20 => 20 | 37 => 112 | 75 => 116 | 127 => 146 | 164 => 158 | 46 => 183 | 119 => 185 | 139 => 188 | 138 => 187 | 146 => 192 | 51 => 180 | 80 => 86 | n => n, fun | 1 => 5 | 3 => 6 | 4 => 7 | n => n⟩
theorem Tryz.lays155 : Go.Proofs.Lays.n155 Tryz.prog Tryz.lays155_ren := {
  mixed := by kernel_rfl
  f138 := Tryz.func159.trans (congrArg some (by kernel_rfl))
  f143 := Tryz.func160.trans (congrArg some (by kernel_rfl))
  f154 := Tryz.func148.trans (congrArg some (by kernel_rfl))
  f155 := Tryz.func112.trans (congrArg some (by kernel_rfl))
  f165 := Tryz.func154.trans (congrArg some (by kernel_rfl))
  f166 := Tryz.func81.trans (congrArg some (by kernel_rfl))
  f169 := Tryz.func87.trans (congrArg some (by kernel_rfl))
  f195 := Tryz.func172.trans (congrArg some (by kernel_rfl))
  f197 := Tryz.func161.trans (congrArg some (by kernel_rfl))
  f217 := Tryz.func186.trans (congrArg some (by kernel_rfl))
  f218 := Tryz.func173.trans (congrArg some (by kernel_rfl))
  f219 := Tryz.func174.trans (congrArg some (by kernel_rfl))
  f224 := Tryz.func188.trans (congrArg some (by kernel_rfl))
  f225 := Tryz.func187.trans (congrArg some (by kernel_rfl))
  f240 := Tryz.func130.trans (congrArg some (by kernel_rfl))
  f241 := Tryz.func165.trans (congrArg some (by kernel_rfl))
  f260 := Tryz.func175.trans (congrArg some (by kernel_rfl))
  f266 := Tryz.func193.trans (congrArg some (by kernel_rfl))
  f267 := Tryz.func189.trans (congrArg some (by kernel_rfl))
  f276 := Tryz.func153.trans (congrArg some (by kernel_rfl))
  f277 := Tryz.func179.trans (congrArg some (by kernel_rfl))
  f314 := Tryz.func194.trans (congrArg some (by kernel_rfl))
  t0 := Tryz.underlying0
  a0 := Tryz.isAgg0
  z0 := Tryz.sizeOf0
  v0 := Tryz.zeroValue0
  t3 := Tryz.underlying3
  a3 := Tryz.isAgg3
  z3 := Tryz.sizeOf3
  v3 := Tryz.zeroValue3
  t4 := Tryz.underlying4
  a4 := Tryz.isAgg4
  z4 := Tryz.sizeOf4
  v4 := Tryz.zeroValue4
  t5 := Tryz.underlying5
  a5 := Tryz.isAgg5
  z5 := Tryz.sizeOf5
  v5 := Tryz.zeroValue5
  t9 := Tryz.underlying9
  a9 := Tryz.isAgg9
  z9 := Tryz.sizeOf9
  v9 := Tryz.zeroValue9
  t20 := Tryz.underlying20
  a20 := Tryz.isAgg20
  z20 := Tryz.sizeOf20
  v20 := Tryz.zeroValue20
  t21 := Tryz.underlying21
  a21 := Tryz.isAgg21
  z21 := Tryz.sizeOf21
  v21 := Tryz.zeroValue21
  t37 := Tryz.underlying112
  a37 := Tryz.isAgg112
  z37 := Tryz.sizeOf112
  v37 := Tryz.zeroValue112
  t46 := Tryz.underlying183
  a46 := Tryz.isAgg183
  z46 := Tryz.sizeOf183
  v46 := Tryz.zeroValue183
  t51 := Tryz.underlying180
  a51 := Tryz.isAgg180
  z51 := Tryz.sizeOf180
  v51 := Tryz.zeroValue180
  t70 := Tryz.underlying111
  a70 := Tryz.isAgg111
  z70 := Tryz.sizeOf111
  v70 := Tryz.zeroValue111
  t72 := Tryz.underlying114
  a72 := Tryz.isAgg114
  z72 := Tryz.sizeOf114
  v72 := Tryz.zeroValue114
  t75 := Tryz.underlying116
  a75 := Tryz.isAgg116
  z75 := Tryz.sizeOf116
  v75 := Tryz.zeroValue116
  t76 := Tryz.underlying117
  a76 := Tryz.isAgg117
  z76 := Tryz.sizeOf117
  v76 := Tryz.zeroValue117
  t105 := Tryz.underlying162
  a105 := Tryz.isAgg162
  z105 := Tryz.sizeOf162
  v105 := Tryz.zeroValue162
  t119 := Tryz.underlying185
  a119 := Tryz.isAgg185
  z119 := Tryz.sizeOf185
  t127 := Tryz.underlying146
  a127 := Tryz.isAgg146
  z127 := Tryz.sizeOf146
  v127 := Tryz.zeroValue146
  t138 := Tryz.underlying187
  a138 := Tryz.isAgg187
  z138 := Tryz.sizeOf187
  v138 := Tryz.zeroValue187
  t139 := Tryz.underlying188
  a139 := Tryz.isAgg188
  z139 := Tryz.sizeOf188
  v139 := Tryz.zeroValue188
  t146 := Tryz.underlying192
  a146 := Tryz.isAgg192
  z146 := Tryz.sizeOf192
  v146 := Tryz.zeroValue192
  t164 := Tryz.underlying158
  a164 := Tryz.isAgg158
  z164 := Tryz.sizeOf158
  v164 := Tryz.zeroValue158
  g1 := by kernel_rfl
  g3 := by kernel_rfl
  g4 := by kernel_rfl }
theorem Tryz.Builder_Extra_155 : Builder.Extra Tryz.prog Tryz.lays155_ren := {
  sizeBuilder := by kernel_rfl
  liesBuilder := by kernel_rfl
  t5 := Tryz.underlying5
  a5 := Tryz.isAgg5
  z5 := Tryz.sizeOf5
  v5 := Tryz.zeroValue5
  infoByte := by kernel_rfl
  cellsByte := by kernel_rfl
  sizeByte := by kernel_rfl
  neB5 := by decide }
open Go.RowKit Go.Lib in
/-- strings.ReplaceAll: "ReplaceAll returns a copy of the string s with all non-overlapping instances of old replaced by new.": AT AN old THAT IS NOT EMPTY: 'Lib.replaceAll s old new'. (LAID: no walk: one application.) -/
theorem Tryz.strings_ReplaceAll (s old new : ByteArray) (m : Int) (w : World) (hs : s.size < 4294967281) (hm : w.cell? ⟨5, 0, none⟩ = some (.int .i64 m)) (h1 : 1 ≤ old.size) (hlen : s.size + Lib.countB s old * new.size ≤ 140737488355328) :
    Calls Tryz.prog 112 #[.string s, .string old, .string new] w fun e w' =>
      e = .returned (.string ⟨(Lib.replaceAll s.data.toList old.data.toList new.data.toList).toArray⟩) ∧ Below w.heap.size w w' := Any.strings_ReplaceAll Tryz.lays155 Tryz.Builder_Extra_155 s old new m w hs hm h1 hlen
end Go.Proofs.YtkcnbmgaeompjaaGreatDoor
/- quoted, Quote. -/
namespace Go.Proofs.YtkcnbmgaeompjaaGreatDoor
open Go.RowKit Go.Maps
set_option linter.unusedVariables false

/-- What ReplaceAll asks of room. -/
theorem count_le_len (s old : Tx) (h : 1 ≤ old.length) : Lib.count s old ≤ s.length := by
  have := Lib.countB_mul_le ⟨old.toArray⟩ (by rw [← len_data]; exact h) s.length ⟨s.toArray⟩ (by rw [← len_data]; exact Nat.le_refl _)
  have h2 : Lib.countB ⟨s.toArray⟩ ⟨old.toArray⟩ * old.length ≤ s.length := by
    rw [← len_data, ← len_data] at this
    exact this
  have h3 : Lib.countB ⟨s.toArray⟩ ⟨old.toArray⟩ = Lib.count s old := rfl
  rw [h3] at h2
  calc Lib.count s old = Lib.count s old * 1 := (Nat.mul_one _).symm
    _ ≤ Lib.count s old * old.length := Nat.mul_le_mul_left _ h
    _ ≤ s.length := h2
theorem replHalf_any (s : ByteArray) (w : World) (hL : Lr w) (hs : s.size ≤ 4096) :
    Calls Tryz.prog 112 #[.string s, .string ⟨#[39, 39]⟩, .string ⟨#[39]⟩] w fun e w' => e = .returned (.string ⟨(half s.data.toList).toArray⟩) ∧ Below w.heap.size w w' := by
  obtain ⟨m, hm⟩ := hL.ml
  have hc : Lib.countB s ⟨#[39, 39]⟩ ≤ s.size := by
    have := count_le_len s.data.toList [39, 39] (by decide)
    rw [len_data] at this
    exact this
  refine (Tryz.strings_ReplaceAll s ⟨#[39, 39]⟩ ⟨#[39]⟩ m w (by omega) hm (by decide) ?_).mono ?_
  · show s.size + Lib.countB s ⟨#[39, 39]⟩ * 1 ≤ _
    omega
  · rintro e w' ⟨rfl, hb⟩
    exact ⟨by rw [← replace_half], hb⟩
theorem replDbl_any (s : ByteArray) (w : World) (hL : Lr w) (hs : s.size ≤ 4000000000) :
    Calls Tryz.prog 112 #[.string s, .string ⟨#[39]⟩, .string ⟨#[39, 39]⟩] w fun e w' => e = .returned (.string ⟨(dbl s.data.toList).toArray⟩) ∧ Below w.heap.size w w' := by
  obtain ⟨m, hm⟩ := hL.ml
  have hc : Lib.countB s ⟨#[39]⟩ ≤ s.size := by
    have := count_le_len s.data.toList [39] (by decide)
    rw [len_data] at this
    exact this
  refine (Tryz.strings_ReplaceAll s ⟨#[39]⟩ ⟨#[39, 39]⟩ m w (by omega) hm (by decide) ?_).mono ?_
  · show s.size + Lib.countB s ⟨#[39]⟩ * 2 ≤ _
    omega
  · rintro e w' ⟨rfl, hb⟩
    exact ⟨by rw [← replace_dbl], hb⟩
end Go.Proofs.YtkcnbmgaeompjaaGreatDoor
/- quoted. -/
namespace Go.Proofs.YtkcnbmgaeompjaaGreatDoor
open Go.RowKit Go.Maps
set_option linter.unusedVariables false

theorem step_below {B d : Nat} {s : ByteArray} {w w1 : World} {v : Value} {p : Nat} {l : List Wd} (h : Sc B d s w v p l 0 0) (hw : Below w.heap.size w w1) : Sc B d s w1 v p l 0 0 ∧ Below B w w1 :=
  ⟨h.keep (Fr.of_below hw), hw.mono (by have := h.le; have := h.blk.lt; omega)⟩
theorem StepP.pre {B d : Nat} {s : ByteArray} {w w1 : World} {p : Nat} {l : List Wd} {r : Tk} {e : Ending} {w' : World} (hb : Below B w w1) (h : StepP B d s w1 p l r e w') : StepP B d s w p l r e w' := by
  obtain ⟨he, h⟩ := h
  refine ⟨he, ?_⟩
  cases r with
  | bad c on => obtain ⟨v, h1, h2⟩ := h; exact ⟨v, h1, hb.trans h2⟩
  | good k t n => obtain ⟨v, h1, h2⟩ := h; exact ⟨v, h1, hb.trans h2⟩

set_option maxRecDepth 100000 in
set_option maxHeartbeats 2000000 in
theorem quoted_any {B d : Nat} {s : ByteArray} {w : World} {v : Value} {p : Nat} {l : List Wd} (h : Sc B d s w v p l 0 0) (r : ByteArray) (hr : p + r.size ≤ s.size) (hr1 : 1 ≤ r.size) (hs : s.size ≤ 4096) (hl : l.length ≤ 5000) :
    Calls Tryz.prog 55 #[.pointer (some ⟨d, 0, none⟩), .string r] w (StepP B d s w p l (quotedT r.data.toList)) := by
  have hsm : s.size ≤ maxLen := by unfold maxLen; omega
  have HQ := Lib.hid (quotedSize_any r w hr1 (by omega))
  by_cases h0 : qsize r.data.toList = 0
  · have hT : quotedT r.data.toList = .bad 40 0 := by
      unfold qsize at h0
      unfold quotedT
      cases hu : unq (r.data.toList.drop 1) with
      | none => rfl
      | some x => rw [hu] at h0; exact absurd h0 (Nat.succ_ne_zero _)
    rw [hT]
    rw [h0] at HQ
    have HC : Hid (Calls Tryz.prog 57 #[.pointer (some ⟨d, 0, none⟩), .int .i64 40, .int .i64 0] w (StepP B d s w p l (.bad 40 0))) := Lib.hid (step_fail (q := 0) h rfl 40 0 (by omega) hsm rfl)
    clear h hT h0 hsm
    go_enter Tryz.func55, Tryz.ntmps55
    go_wp2_with fail
    refine HQ.out.mono ?_
    rintro e w' ⟨rfl, rfl⟩
    go_wp2_with fail
    refine HC.out.mono ?_
    intro e w2 hw2
    have H2 := Lib.hid hw2
    obtain ⟨rfl, _⟩ := hw2
    go_wp2
    go_end0
    exact H2.out
  · obtain ⟨q1, q2, t, n, hu, hqn, hin⟩ := qsize_le h0
    rw [len_data] at q2
    have hT : quotedT r.data.toList = if 64 < t.length then .bad 45 0 else .good 4 t (n + 1) := by
      unfold quotedT; rw [hu]
    rw [hT]
    rw [hqn] at HQ q1 q2
    have hx : half (r.extract 1 n).data.toList = t := by
      rw [ext_toList, ← half_dbl t, ← hin, List.drop_take]
    have hn1 : 1 ≤ n := by omega
    have HRA : Hid (Calls Tryz.prog 112 #[.string (r.extract 1 n), .string ⟨#[39, 39]⟩, .string ⟨#[39]⟩] w fun e w' => e = .returned (.string ⟨t.toArray⟩) ∧ Below w.heap.size w w') := Lib.hid (by
      have := replHalf_any (r.extract 1 n) w h.lr (by
        rw [← len_data, ext_toList, List.length_drop, List.length_take, len_data]; omega)
      rw [hx] at this
      exact this)
    have HSB : Hid (∀ w1, Below w.heap.size w w1 → Sc B d s w1 v p l 0 0 ∧ Below B w w1) := Lib.hid fun w1 hw => step_below h hw
    have hts : (⟨t.toArray⟩ : ByteArray).size = t.length := by rw [← len_data]
    clear hT hu hin hx h0 hqn
    have e1 : IntKind.i64.wrap (((n + 1 : Nat) : Int) - 1) = (n : Int) := by rw [IntWalk.i64_in _ (by omega)]; omega
    by_cases h64 : 64 < t.length
    · rw [if_pos h64]
      have HC : Hid (∀ w1, Sc B d s w1 v p l 0 0 → Calls Tryz.prog 57 #[.pointer (some ⟨d, 0, none⟩), .int .i64 45, .int .i64 0] w1 (StepP B d s w1 p l (.bad 45 0))) := Lib.hid fun w1 h1 => step_fail (q := 0) h1 rfl 45 0 (by omega) hsm rfl
      generalize (⟨t.toArray⟩ : ByteArray) = tb at *
      clear h hsm
      go_enter Tryz.func55, Tryz.ntmps55
      go_wp2_with fail
      refine HQ.out.mono ?_
      rintro e w' ⟨rfl, rfl⟩
      go_wp2_with fail
      refine HRA.out.mono ?_
      rintro e w1 ⟨rfl, hb1⟩
      have h1 := HSB.out w1 hb1
      have HB1 := Lib.hid h1.2
      have HC1 := Lib.hid (HC.out w1 h1.1)
      clear hb1 h1 HC
      go_wp2_with fail
      refine HC1.out.mono ?_
      intro e w2 hw2
      have H2 := Lib.hid hw2
      obtain ⟨rfl, _⟩ := hw2
      go_wp2
      go_end0
      exact StepP.pre HB1.out H2.out
    · rw [if_neg h64]
      have HC : Hid (∀ w1, Sc B d s w1 v p l 0 0 → Calls Tryz.prog 52 #[.pointer (some ⟨d, 0, none⟩), .int .i64 4, .string ⟨t.toArray⟩, .int .i64 (n + 1 : Nat)] w1 (StepP B d s w1 p l (.good 4 t (n + 1)))) := Lib.hid fun w1 h1 => step_take (q := 0) h1 rfl 4 (n + 1) ⟨t.toArray⟩ (by omega) (by omega) hsm hl rfl
      generalize (⟨t.toArray⟩ : ByteArray) = tb at *
      clear h hsm
      go_enter Tryz.func55, Tryz.ntmps55
      go_wp2_with fail
      refine HQ.out.mono ?_
      rintro e w' ⟨rfl, rfl⟩
      go_wp2_with fail
      refine HRA.out.mono ?_
      rintro e w1 ⟨rfl, hb1⟩
      have h1 := HSB.out w1 hb1
      have HB1 := Lib.hid h1.2
      have HC1 := Lib.hid (HC.out w1 h1.1)
      clear hb1 h1 HC
      go_wp2_with fail
      refine HC1.out.mono ?_
      intro e w2 hw2
      have H2 := Lib.hid hw2
      obtain ⟨rfl, _⟩ := hw2
      go_wp2
      go_end0
      exact StepP.pre HB1.out H2.out
end Go.Proofs.YtkcnbmgaeompjaaGreatDoor
/- Words: what a scan keeps. -/
namespace Go.Proofs.YtkcnbmgaeompjaaGreatDoor
open Go.RowKit Go.Maps
set_option linter.unusedVariables false

def comb (l : List Wd) (x : Res) : Res := if x.2.1 = 0 then (l ++ x.1, 0, 0) else ([], x.2)
theorem comb_cons (l : List Wd) (a : Wd) (x : Res) : comb l (cons1 a x) = comb (l ++ [a]) x := by
  unfold comb cons1
  by_cases h : x.2.1 = 0
  · rw [if_pos h, if_pos rfl, if_pos h]; simp
  · rw [if_neg h, if_neg h, if_neg h]
theorem scan_zero {r : Tx} {p : Nat} (h : (scanB r p).2.1 = 0) : (scanB r p).2.2 = 0 := by
  obtain ⟨l, z, h1, h2, _⟩ := made_scan r.length r p _ (Nat.le_refl _) h rfl
  have h4 := scan_made l z p h2
  rw [h1, h4]
theorem comb_nil (r : Tx) (p : Nat) : comb [] (scanB r p) = scanB r p := by
  unfold comb
  by_cases h : (scanB r p).2.1 = 0
  · rw [if_pos h]
    have h2 := scan_zero h
    cases hs : scanB r p with
    | mk a b =>
      obtain ⟨c, f⟩ := b
      rw [hs] at h h2
      simp only at h h2
      rw [h, h2]; rfl
  · rw [if_neg h]
    have h3 := (scan_fault r.length r p (Nat.le_refl _) h).2.2
    rw [← h3]

/-- What a scan keeps ahead of each word. -/
def InvA (B d : Nat) (s : ByteArray) (w : World) (v : Value) (p : Nat) (l : List Wd) : Prop :=
  Sc B d s w v p l 0 0 ∧ p ≤ s.size ∧ l.length ≤ p ∧ wordsB s.data.toList = comb l (scanB (s.data.toList.drop p) p)
def InvB (B d : Nat) (s : ByteArray) (w : World) : Prop := ∃ v p c f, Sc B d s w v p [] c f ∧ c ≠ 0 ∧ wordsB s.data.toList = ([], c, f)
def LInv (B d : Nat) (s : ByteArray) (w : World) : Prop := (∃ v p l, InvA B d s w v p l) ∨ InvB B d s w
def LDone (B d : Nat) (s : ByteArray) (w : World) : Prop := ∃ v p l c f, Sc B d s w v p l c f ∧ wordsB s.data.toList = (l, c, f)
theorem InvB.done {B d : Nat} {s : ByteArray} {w : World} (h : InvB B d s w) : LDone B d s w := by
  obtain ⟨v, p, c, f, h1, h2, h3⟩ := h
  exact ⟨v, p, [], c, f, h1, h3⟩

def ldN (w : World) (a : Addr) : Nat := match w.cell? a with | some (.int _ n) => n.toNat | _ => 0
def measW (s : ByteArray) (d : Nat) (w : World) : Nat := if ldN w ⟨d, 3, none⟩ = 0 then s.size + 1 - ldN w ⟨d, 1, none⟩ else 0
theorem Sc.meas {B d : Nat} {s : ByteArray} {w : World} {v : Value} {p : Nat} {l : List Wd} {c f : Nat} (h : Sc B d s w v p l c f) : measW s d w = if c = 0 then s.size + 1 - p else 0 := by
  have c1 : w.cell? ⟨d, 1, none⟩ = some (.int .i64 (p : Nat)) := h.blk.cell 1
  have c3 : w.cell? ⟨d, 3, none⟩ = some (.int .i64 (c : Nat)) := h.blk.cell 3
  unfold measW ldN
  rw [c1, c3]
  simp

theorem Sc.move {B d : Nat} {s : ByteArray} {w : World} {v : Value} {p : Nat} {l : List Wd} (h : Sc B d s w v p l 0 0) (n q : Nat) : Sc B d s ((w.drewN q).setCell ⟨d, 1, none⟩ (.int .i64 (n : Nat))) v n l 0 0 ∧ Below B w ((w.drewN q).setCell ⟨d, 1, none⟩ (.int .i64 (n : Nat))) := by
  have hf : Fr (fun k => k = d) w ((w.drewN q).setCell ⟨d, 1, none⟩ (.int .i64 (n : Nat))) := ((Fr.refl (fun k => k = d) w).drewN q).setCell (p := ⟨d, 1, none⟩) (fun _ => rfl) _
  have hbel : Below B w ((w.drewN q).setCell ⟨d, 1, none⟩ (.int .i64 (n : Nat))) := hf.below_of (by have := h.le; have := h.blk.lt; omega) (by rintro k rfl; exact h.le)
  refine ⟨{ blk := ((h.drewN q).blk.set_ 1 _), row := own_of h.row fun k hk => hf.block k (h.row.lt k hk).2 fun e => h.apart (e ▸ hk), le := h.le, lr := h.lr.keep h.b2 hbel, b2 := h.b2 }, hbel⟩

/-- Ahead of a word, the blanks gone over: r is what is left. -/
structure Ahead (B d : Nat) (s : ByteArray) (w : World) (v : Value) (p : Nat) (l : List Wd) : Prop where
  sc : Sc B d s w v p l 0 0
  le : p ≤ s.size
  ln : l.length ≤ p
  eq : wordsB s.data.toList = comb l (scanB (s.data.toList.drop p) p)
  nb : firstB (s.data.toList.drop p) ≠ 1
theorem rest_list (s : ByteArray) (p : Nat) : (s.extract p s.size).data.toList = s.data.toList.drop p := by
  rw [ext_toList, show s.data.toList.take s.size = s.data.toList by rw [← len_data, List.take_length]]
theorem InvA.ahead {B d : Nat} {s : ByteArray} {w : World} {v : Value} {p : Nat} {l : List Wd} (h : InvA B d s w v p l) (q : Nat) {n : Nat} (hn : p + runB isBla (s.data.toList.drop p) = n) :
    Ahead B d s ((w.drewN q).setCell ⟨d, 1, none⟩ (.int .i64 (n : Nat))) v n l ∧ Below B w ((w.drewN q).setCell ⟨d, 1, none⟩ (.int .i64 (n : Nat))) := by
  obtain ⟨h1, h2, h3, h4⟩ := h
  have hle := runB_le isBla (s.data.toList.drop p)
  have hst := runB_head isBla (s.data.toList.drop p)
  rw [List.length_drop, len_data] at hle
  obtain ⟨h5, h6⟩ := h1.move n q
  refine ⟨⟨h5, by omega, by omega, ?_, ?_⟩, h6⟩
  · rw [h4, scanB_blanks, List.drop_drop, hn]
  · rw [List.drop_drop, hn] at hst
    cases hd : s.data.toList.drop n with
    | nil => simp [firstB]
    | cons b m =>
      rw [hd] at hst
      intro e
      have := hst b rfl
      rw [(kind_bla b).1 e] at this; cases this
theorem Ahead.drewN {B d : Nat} {s : ByteArray} {w : World} {v : Value} {p : Nat} {l : List Wd} (h : Ahead B d s w v p l) (n : Nat) : Ahead B d s (w.drewN n) v p l := { h with sc := h.sc.drewN n }
/-- Behind a word. -/
theorem Ahead.step {B d : Nat} {s : ByteArray} {w : World} {v : Value} {p : Nat} {l : List Wd} (h : Ahead B d s w v p l) (hne : s.data.toList.drop p ≠ []) {e : Ending} {w' : World} (hw : StepP B d s w p l (wordT (s.data.toList.drop p)) e w') :
    LInv B d s w' ∧ Below B w w' ∧ measW s d w' < s.size + 1 - p := by
  obtain ⟨_, hw⟩ := hw
  cases hk : wordT (s.data.toList.drop p) with
  | bad c on =>
    rw [hk] at hw
    obtain ⟨v', h1, h2⟩ := hw
    have hc : c ≠ 0 := by rcases (word_bad hk).1 with e | e <;> omega
    have he := h.eq
    rw [scanB_bad p h.nb hne hk] at he
    have hle := h.le
    refine ⟨.inr ⟨v', p, c, p + on, h1, hc, by rw [he]; unfold comb; rw [if_neg hc]⟩, h2, ?_⟩
    rw [h1.meas, if_neg hc]; omega
  | good k t n =>
    rw [hk] at hw
    obtain ⟨v', h1, h2⟩ := hw
    obtain ⟨x, y, g1, g2, g3, _⟩ := word_inv hk
    have hxl : 0 < x.length := List.length_pos_iff.2 g3
    have hlen := congrArg List.length g1
    rw [List.length_drop, len_data, List.length_append] at hlen
    have hle := h.le
    have hln := h.ln
    have he := h.eq
    rw [scanB_good p h.nb hne hk, List.drop_drop, comb_cons] at he
    refine ⟨.inl ⟨v', p + n, l ++ [⟨k, t, p⟩], h1, by omega, by simp; omega, he⟩, h2, ?_⟩
    rw [h1.meas, if_pos rfl]; omega
theorem Ahead.ending {B d : Nat} {s : ByteArray} {w w' : World} {v v' : Value} {p : Nat} {l : List Wd} (h : Ahead B d s w v p l) (he : s.data.toList.drop p = []) (h' : Sc B d s w' v' (p + 0) (l ++ [⟨6, [], p⟩]) 0 0) : LDone B d s w' := by
  refine ⟨v', p + 0, _, 0, 0, h', ?_⟩
  rw [h.eq, he, scanB_end]; rfl
theorem InvA.start {B d : Nat} {s : ByteArray} {w : World} (h : Sc B d s w (.slice none 0 0) 0 [] 0 0) (hs : s.size ≤ 4096) : LInv B d s w := by
  refine .inl ⟨_, 0, [], h, Nat.zero_le _, Nat.le_refl _, ?_⟩
  rw [wordsB_scan _ (by rw [len_data]; exact hs), List.drop_zero, comb_nil]
end Go.Proofs.YtkcnbmgaeompjaaGreatDoor
/- Words, walked. -/
namespace Go.Proofs.YtkcnbmgaeompjaaGreatDoor
open Go.RowKit Go.Maps
set_option linter.unusedVariables false

def WordsP (s : ByteArray) (w : World) (e : Ending) (w' : World) : Prop :=
  ∃ v, e = .returned (.tuple #[v, .agg #[.int .i64 ((wordsB s.data.toList).2.1 : Nat), .int .i64 ((wordsB s.data.toList).2.2 : Nat)]]) ∧ RowW w.heap.size w' v (wordsB s.data.toList).1 ∧ Below w.heap.size w w'

theorem words_end {B y : Nat} {s : ByteArray} {w wa wr : World} {v : Value} {p : Nat} {l : List Wd} {c f : Nat} (h : Sc (y + 1) B s wr v p l c f) (he : wordsB s.data.toList = (l, c, f)) (hy : w.heap.size = y) (ha : Below y w wa) (hb : Below (y + 1) wa wr) (hyl : y < wa.heap.size) (u0 u1 : Value) :
    WordsP s w (.returned (.tuple #[v, .agg #[.int .i64 (c : Nat), .int .i64 (f : Nat)]])) (((wr.setCell ⟨y, 0, none⟩ u0).setCell ⟨y, 1, none⟩ u1).drew) := by
  have hf : Fr (fun k => k = y) wr (((wr.setCell ⟨y, 0, none⟩ u0).setCell ⟨y, 1, none⟩ u1).drew) :=
    (((Fr.refl (fun k => k = y) wr).setCell (p := ⟨y, 0, none⟩) (fun _ => rfl) _).setCell (p := ⟨y, 1, none⟩) (fun _ => rfl) _).drew
  refine ⟨v, by rw [he], ?_, ?_⟩
  · rw [he, hy]
    refine own_base (own_of h.row fun k hk => hf.block k (h.row.lt k hk).2 fun e => ?_) (by omega)
    have := (h.row.lt k hk).1
    omega
  · rw [hy]
    exact (ha.trans (hb.mono (by omega))).trans (hf.below_of (by have := hb.size; omega) (by rintro k rfl; exact Nat.le_refl _))

set_option maxRecDepth 100000 in
set_option maxHeartbeats 4000000 in
theorem words_some (s : ByteArray) (w : World) (hL : Lr w) (hs : s.size ≤ 4096) : Calls Tryz.prog 21 #[.string s] w (WordsP s w) := by
  have hsm : s.size ≤ maxLen := by unfold maxLen; omega
  obtain ⟨y, hy⟩ : ∃ y, w.heap.size = y := ⟨_, rfl⟩
  obtain ⟨wa, hwa⟩ : ∃ wa, w.alloc (.cells #[.int .i64 0, .int .i64 0] 30) = wa := ⟨_, rfl⟩
  obtain ⟨wb, hwb⟩ : ∃ wb, wa.alloc (.cells #[.string s, .int .i64 0, .slice none 0 0, .int .i64 0, .int .i64 0] 84) = wb := ⟨_, rfl⟩
  have hya : wa.heap.size = y + 1 := by rw [← hwa, ← hy]; simp
  have hby : Blk wa y 30 #[.int .i64 0, .int .i64 0] := by rw [← hwa, ← hy]; exact Blk.new w 30 _
  have ba : Below y w wa := by rw [← hwa, ← hy]; exact (Below.refl _ _).alloc (Nat.le_refl _) _
  have bb : Below (y + 1) wa wb := by rw [← hwb]; exact (Below.refl _ _).alloc (by omega) _
  have hy2 : 5 < y := by rw [← hy]; exact hL.lt
  have hsc : Sc (y + 1) (y + 1) s wb (.slice none 0 0) 0 [] 0 0 := {
    blk := by rw [← hwb, ← hya]; exact Blk.new wa 84 _
    row := ⟨rfl, .inl ⟨rfl, rfl⟩⟩
    le := Nat.le_refl _
    lr := (hL.keep (by omega) ba).keep (by omega) bb
    b2 := by omega }
  have HINV := Lib.hid (InvA.start hsc hs)
  have HMS : Hid (measW s (y + 1) wb = s.size + 1) := Lib.hid (by rw [hsc.meas]; rfl)
  have HY := Lib.hid hy
  have HWA := Lib.hid hwa
  have HWB := Lib.hid hwb
  have HBY := Lib.hid hby
  have HBA := Lib.hid ba
  have HBB := Lib.hid bb
  have HYA := Lib.hid hya
  have HEND : Hid (∀ wr v p l c f, Sc (y + 1) (y + 1) s wr v p l c f → wordsB s.data.toList = (l, c, f) → Below (y + 1) wa wr → ∀ u0 u1 : Value, WordsP s w (.returned (.tuple #[v, .agg #[.int .i64 (c : Nat), .int .i64 (f : Nat)]])) (((wr.setCell ⟨y, 0, none⟩ u0).setCell ⟨y, 1, none⟩ u1).drew)) :=
    Lib.hid fun wr v p l c f h he hb u0 u1 => words_end h he hy ba hb (by omega) u0 u1
  clear hy hwa hwb hya hby ba bb hsc hL
  go_enter Tryz.func21, Tryz.ntmps21
  go_wp2_with fail
  rw [HWA.out, HY.out]
  go_step3
  go_wp2_with fail
  go_step3
  go_wp2_with fail
  rw [HWB.out, HYA.out]
  go_loopg [5] (s.size + 1) (fun k r5 wr => Hid (LInv (y + 1) (y + 1) s wr) ∧ Hid (Below (y + 1) wa wr) ∧ measW s (y + 1) wr ≤ k)
  case atStart => exact ⟨HINV, HBB, by rw [HMS.out]; exact Nat.le_refl _⟩
  case round =>
    obtain ⟨HI, HBL, hmk⟩ := hrel
    have hby : Blk wr y 30 #[.int .i64 0, .int .i64 0] := HBY.out.of (HBL.out.block y (by omega))
    have y0 : wr.cell? ⟨y, 0, none⟩ = some (.int .i64 0) := hby.cell 0
    have y1 : wr.cell? ⟨y, 1, none⟩ = some (.int .i64 0) := hby.cell 1
    have z0 := hby.frozen 0
    have z1 := hby.frozen 1
    clear hby
    rcases HI.out with ⟨v, p, l, hA⟩ | hB
    · have hle := hA.2.1
      obtain ⟨g, hg⟩ : ∃ g, runB isBla (s.data.toList.drop p) = g := ⟨_, rfl⟩
      obtain ⟨n, hn⟩ : ∃ n, p + g = n := ⟨_, rfl⟩
      have hgl : p + g ≤ s.size := by
        have := runB_le isBla (s.data.toList.drop p)
        rw [List.length_drop, len_data, hg] at this; omega
      have HREST : Hid (∀ wx q, wx = wr.drewN q → Calls Tryz.prog 49 #[.pointer (some ⟨y + 1, 0, none⟩)] wx fun e w' => e = .returned (.string (s.extract p s.size)) ∧ ∃ m, w' = wr.drewN m) := Lib.hid fun wx q hx => by
        subst hx
        refine (rest_any (hA.1.drewN q) hle hsm).mono ?_
        rintro e w' ⟨he, m, hm⟩
        exact ⟨he, q + m, by rw [hm, World.drewN_drewN]⟩
      have HRUN : Hid (∀ wx q, wx = wr.drewN q → Calls Tryz.prog 48 #[.string (s.extract p s.size), .func (.func 50) #[] #[]] wx fun e w' => e = .returned (.int .i64 (g : Nat)) ∧ wx = w') := Lib.hid fun wx q hx => by
        subst hx
        have := run_blank (s.extract p s.size) (wr.drewN q) (hA.1.drewN q).lr (by rw [← len_data, rest_list, List.length_drop, len_data]; unfold maxLen at *; omega)
        rw [rest_list, hg] at this
        exact this
      have HAH : Hid (∀ q, Ahead (y + 1) (y + 1) s ((wr.drewN q).setCell ⟨y + 1, 1, none⟩ (.int .i64 (n : Nat))) v n l ∧ Below (y + 1) wr ((wr.drewN q).setCell ⟨y + 1, 1, none⟩ (.int .i64 (n : Nat)))) := Lib.hid fun q => hA.ahead q (by rw [hg, hn])
      have HMK : Hid (s.size + 1 - p ≤ gk) := Lib.hid (by rw [hA.1.meas, if_pos rfl] at hmk; exact hmk)
      have c1 : wr.cell? ⟨y + 1, 1, none⟩ = some (.int .i64 (p : Nat)) := hA.1.blk.cell 1
      have c3 : wr.cell? ⟨y + 1, 3, none⟩ = some (.int .i64 0) := hA.1.blk.cell 3
      have f1 := hA.1.blk.frozen 1
      have e1 : IntKind.i64.wrap ((p : Int) + (g : Int)) = (n : Int) := by rw [IntWalk.i64_in _ (by omega)]; omega
      have HPN : Hid (p ≤ n ∧ n ≤ s.size) := Lib.hid (by omega)
      clear hA hmk hg hn hgl
      go_upto_region 5 with fail
      go_cut [] (fun wx => ∃ q, wx = (wr.drewN q).setCell ⟨y + 1, 1, none⟩ (.int .i64 (n : Nat)))
      case first =>
        go_region_with (first
          | (go_at_call 49; (first | (refine (HREST.out _ _ rfl).mono ?_) | (refine (HREST.out _ 1 rfl).mono ?_)); rintro e w' ⟨rfl, m, rfl⟩)
          | (go_at_call 48; (first | (refine (HRUN.out _ _ rfl).mono ?_) | (refine (HRUN.out _ 1 rfl).mono ?_)); rintro e w' ⟨rfl, rfl⟩))
        all_goals (go_simp; go_wp2_with fail)
        all_goals go_meet
        all_goals exact ⟨_, rfl⟩
      case rest =>
        obtain ⟨q, hq⟩ := hcut
        have ha := HAH.out q
        rw [← hq] at ha
        have HAW := Lib.hid ha.1
        have HBC := Lib.hid ha.2
        clear hq ha HAH HREST HRUN c1 c3 f1 e1 y0 y1 z0 z1
        obtain ⟨k', rfl⟩ : ∃ k', gk = k' + 1 := ⟨gk - 1, by have := HMK.out; omega⟩
        obtain ⟨X, hX⟩ : ∃ X, s.extract n s.size = X := ⟨_, rfl⟩
        have HXL : Hid (X.data.toList = s.data.toList.drop n) := Lib.hid (by rw [← hX, rest_list])
        have hXs : n + X.size ≤ s.size := by
          have := HXL.out
          have h2 := congrArg List.length this
          rw [len_data, List.length_drop, len_data] at h2
          have := HPN.out
          omega
        have HREST2 : Hid (Calls Tryz.prog 49 #[.pointer (some ⟨y + 1, 0, none⟩)] wc fun e w' => e = .returned (.string X) ∧ ∃ m, w' = wc.drewN m) := Lib.hid (by rw [← hX]; exact rest_any HAW.out.sc HAW.out.le hsm)
        obtain ⟨K, hK⟩ : ∃ K, firstB (s.data.toList.drop n) = K := ⟨_, rfl⟩
        have HFST : Hid (∀ m, Calls Tryz.prog 51 #[.string X] (wc.drewN m) fun e w' => e = .returned (.int .u8 (K : Nat)) ∧ wc.drewN m = w') := Lib.hid fun m => by
          have := first_any X (wc.drewN m) (HAW.out.sc.drewN m).lr
          rw [HXL.out, hK] at this
          exact this
        have hl5 : l.length ≤ 5000 := by have := HAW.out.ln; have := HPN.out; omega
        have HXS := Lib.hid hXs
        clear hX
        by_cases hk6 : K = 6
        · subst hk6
          have hnil : s.data.toList.drop n = [] := by
            cases hd : s.data.toList.drop n with
            | nil => rfl
            | cons b m => rw [hd] at hK; have h1 := kind_lt b; have h2 : kindB b = 6 := hK; omega
          have HNIL := Lib.hid hnil
          have HTK : Hid (∀ m, Calls Tryz.prog 52 #[.pointer (some ⟨y + 1, 0, none⟩), .int .i64 6, .string ⟨#[]⟩, .int .i64 0] (wc.drewN m) fun e w' => e = .returned (.tuple #[]) ∧ ∃ v', Sc (y + 1) (y + 1) s w' v' (n + 0) (l ++ [⟨6, [], n⟩]) 0 0 ∧ Below (y + 1) wc w') := Lib.hid fun m => by
            refine (take_any (HAW.out.sc.drewN m) 6 0 ⟨#[]⟩ (by omega) (by have := HPN.out; omega) hsm hl5).mono ?_
            rintro e w' ⟨he, v', h1, h2⟩
            exact ⟨he, v', h1, (below_drewN _ _ m).trans h2⟩
          clear hK hnil
          go_wp2_with fail
          refine HREST2.out.mono ?_
          rintro e w' ⟨rfl, m, rfl⟩
          go_wp2_with fail
          refine (HFST.out m).mono ?_
          rintro e w' ⟨rfl, rfl⟩
          go_wp2_with fail
          refine (HTK.out m).mono ?_
          rintro e w2 ⟨rfl, v2, hsc, hb2⟩
          have hb := (HBL.out.trans HBC.out).trans hb2
          have hby : Blk w2 y 30 #[.int .i64 0, .int .i64 0] := HBY.out.of (hb.block y (by omega))
          have y0 : w2.cell? ⟨y, 0, none⟩ = some (.int .i64 0) := hby.cell 0
          have y1 : w2.cell? ⟨y, 1, none⟩ = some (.int .i64 0) := hby.cell 1
          have z0 := hby.frozen 0
          have z1 := hby.frozen 1
          have c3 : w2.cell? ⟨y + 1, 3, none⟩ = some (.int .i64 0) := hsc.blk.cell 3
          have c4 : w2.cell? ⟨y + 1, 4, none⟩ = some (.int .i64 0) := hsc.blk.cell 4
          have c2 : w2.cell? ⟨y + 1, 2, none⟩ = some v2 := hsc.blk.cell 2
          have HSC := Lib.hid hsc
          have HBW := Lib.hid hb
          have HEQ : Hid (wordsB s.data.toList = (l ++ [⟨6, [], n⟩], 0, 0)) := Lib.hid (by rw [HAW.out.eq, HNIL.out, scanB_end]; rfl)
          clear hsc hb hb2 hby
          go_wp2_with fail
          go_region
          go_wp2
          rw [Exit.noGoto_ret]
          refine bodyPost_ret (v := .tuple #[v2, .agg #[.int .i64 (0 : Nat), .int .i64 (0 : Nat)]]) (by simp [results, Tryz.results21, go_sem, y0, y1]) rfl ?_
          exact HEND.out _ _ _ _ _ _ HSC.out HEQ.out HBW.out _ _
        have HNE : Hid (s.data.toList.drop n ≠ []) := Lib.hid fun e => by rw [e] at hK; exact hk6 hK.symm
        have h60 : ((K : Int) == 6) = false := by simp; omega
        have HK6 := Lib.hid hk6
        have hr1 : 1 ≤ X.size := by
          have h1 := HNE.out
          rw [← HXL.out] at h1
          rw [← len_data]
          exact List.length_pos_iff.2 h1
        by_cases h2 : K = 2
        · have HST : Hid (∀ m, Calls Tryz.prog 53 #[.pointer (some ⟨y + 1, 0, none⟩), .string X] (wc.drewN m) (StepP (y + 1) (y + 1) s wc n l (wordT (s.data.toList.drop n)))) := Lib.hid fun m => by
            have hT : wordT (s.data.toList.drop n) = lettersT (s.data.toList.drop n) := by unfold wordT; rw [if_pos (hK.trans h2)]
            rw [hT]
            refine (letters_any (HAW.out.sc.drewN m) X hXs hsm hl5).mono fun e w' h => StepP.pre (below_drewN _ _ m) ?_
            rw [HXL.out] at h
            exact h
          subst h2
          clear hk6 hK HK6 h60
          go_wp2_with fail
          refine HREST2.out.mono ?_
          rintro e w' ⟨rfl, m, rfl⟩
          go_wp2_with fail
          refine (HFST.out m).mono ?_
          rintro e w' ⟨rfl, rfl⟩
          go_wp2_with fail
          refine (HST.out m).mono ?_
          intro e w2 hw2
          have H2 := Lib.hid (HAW.out.step HNE.out hw2)
          obtain ⟨rfl, _⟩ := hw2
          go_wp2
          go_roundg k'
          case measure => omega
          case rel => exact ⟨Lib.hid H2.out.1, Lib.hid ((HBL.out.trans HBC.out).trans H2.out.2.1), by have := H2.out.2.2; have := HMK.out; have := HPN.out; omega⟩
        have h20 : ((K : Int) == 2) = false := by simp; omega
        by_cases h3 : K = 3
        · have HST : Hid (∀ m, Calls Tryz.prog 54 #[.pointer (some ⟨y + 1, 0, none⟩), .string X] (wc.drewN m) (StepP (y + 1) (y + 1) s wc n l (wordT (s.data.toList.drop n)))) := Lib.hid fun m => by
            have hT : wordT (s.data.toList.drop n) = digitsT (s.data.toList.drop n) := by unfold wordT; rw [if_neg (by omega), if_pos (hK.trans h3)]
            rw [hT]
            refine (digits_any (HAW.out.sc.drewN m) X hXs hsm hl5).mono fun e w' h => StepP.pre (below_drewN _ _ m) ?_
            rw [HXL.out] at h
            exact h
          subst h3
          clear hk6 hK HK6 h60
          go_wp2_with fail
          refine HREST2.out.mono ?_
          rintro e w' ⟨rfl, m, rfl⟩
          go_wp2_with fail
          refine (HFST.out m).mono ?_
          rintro e w' ⟨rfl, rfl⟩
          go_wp2_with fail
          refine (HST.out m).mono ?_
          intro e w2 hw2
          have H2 := Lib.hid (HAW.out.step HNE.out hw2)
          obtain ⟨rfl, _⟩ := hw2
          go_wp2
          go_roundg k'
          case measure => omega
          case rel => exact ⟨Lib.hid H2.out.1, Lib.hid ((HBL.out.trans HBC.out).trans H2.out.2.1), by have := H2.out.2.2; have := HMK.out; have := HPN.out; omega⟩
        have h30 : ((K : Int) == 3) = false := by simp; omega
        by_cases h4 : K = 4
        · have HST : Hid (∀ m, Calls Tryz.prog 55 #[.pointer (some ⟨y + 1, 0, none⟩), .string X] (wc.drewN m) (StepP (y + 1) (y + 1) s wc n l (wordT (s.data.toList.drop n)))) := Lib.hid fun m => by
            have hT : wordT (s.data.toList.drop n) = quotedT (s.data.toList.drop n) := by unfold wordT; rw [if_neg (by omega), if_neg (by omega), if_pos (hK.trans h4)]
            rw [hT]
            refine (quoted_any (HAW.out.sc.drewN m) X hXs hr1 hs hl5).mono fun e w' h => StepP.pre (below_drewN _ _ m) ?_
            rw [HXL.out] at h
            exact h
          subst h4
          clear hk6 hK HK6 h60
          go_wp2_with fail
          refine HREST2.out.mono ?_
          rintro e w' ⟨rfl, m, rfl⟩
          go_wp2_with fail
          refine (HFST.out m).mono ?_
          rintro e w' ⟨rfl, rfl⟩
          go_wp2_with fail
          refine (HST.out m).mono ?_
          intro e w2 hw2
          have H2 := Lib.hid (HAW.out.step HNE.out hw2)
          obtain ⟨rfl, _⟩ := hw2
          go_wp2
          go_roundg k'
          case measure => omega
          case rel => exact ⟨Lib.hid H2.out.1, Lib.hid ((HBL.out.trans HBC.out).trans H2.out.2.1), by have := H2.out.2.2; have := HMK.out; have := HPN.out; omega⟩
        have h40 : ((K : Int) == 4) = false := by simp; omega
        by_cases h5 : K = 5
        · have HST : Hid (∀ m, Calls Tryz.prog 56 #[.pointer (some ⟨y + 1, 0, none⟩), .string X] (wc.drewN m) (StepP (y + 1) (y + 1) s wc n l (wordT (s.data.toList.drop n)))) := Lib.hid fun m => by
            have hT : wordT (s.data.toList.drop n) = signT (s.data.toList.drop n) := by unfold wordT; rw [if_neg (by omega), if_neg (by omega), if_neg (by omega), if_pos (hK.trans h5)]
            rw [hT]
            refine (sign_any (HAW.out.sc.drewN m) X hXs hr1 hsm hl5).mono fun e w' h => StepP.pre (below_drewN _ _ m) ?_
            rw [HXL.out] at h
            exact h
          subst h5
          clear hk6 hK HK6 h60
          go_wp2_with fail
          refine HREST2.out.mono ?_
          rintro e w' ⟨rfl, m, rfl⟩
          go_wp2_with fail
          refine (HFST.out m).mono ?_
          rintro e w' ⟨rfl, rfl⟩
          go_wp2_with fail
          refine (HST.out m).mono ?_
          intro e w2 hw2
          have H2 := Lib.hid (HAW.out.step HNE.out hw2)
          obtain ⟨rfl, _⟩ := hw2
          go_wp2
          go_roundg k'
          case measure => omega
          case rel => exact ⟨Lib.hid H2.out.1, Lib.hid ((HBL.out.trans HBC.out).trans H2.out.2.1), by have := H2.out.2.2; have := HMK.out; have := HPN.out; omega⟩
        have h50 : ((K : Int) == 5) = false := by simp; omega
        · have HST : Hid (∀ m, Calls Tryz.prog 57 #[.pointer (some ⟨y + 1, 0, none⟩), .int .i64 40, .int .i64 0] (wc.drewN m) (StepP (y + 1) (y + 1) s wc n l (wordT (s.data.toList.drop n)))) := Lib.hid fun m => by
            have hT : wordT (s.data.toList.drop n) = .bad 40 0 := by unfold wordT; rw [if_neg (by omega), if_neg (by omega), if_neg (by omega), if_neg (by omega)]
            rw [hT]
            refine (step_fail (q := 0) (HAW.out.sc.drewN m) rfl 40 0 (by have := HPN.out; omega) hsm rfl).mono fun e w' h => StepP.pre (below_drewN _ _ m) ?_
            rw [show (Tk.bad 40 0) = Tk.bad 40 0 from rfl] at h
            exact h
          skip
          clear hk6 hK HK6
          go_wp2_with fail
          refine HREST2.out.mono ?_
          rintro e w' ⟨rfl, m, rfl⟩
          go_wp2_with fail
          refine (HFST.out m).mono ?_
          rintro e w' ⟨rfl, rfl⟩
          go_wp2_with fail
          refine (HST.out m).mono ?_
          intro e w2 hw2
          have H2 := Lib.hid (HAW.out.step HNE.out hw2)
          obtain ⟨rfl, _⟩ := hw2
          go_wp2
          go_roundg k'
          case measure => omega
          case rel => exact ⟨Lib.hid H2.out.1, Lib.hid ((HBL.out.trans HBC.out).trans H2.out.2.1), by have := H2.out.2.2; have := HMK.out; have := HPN.out; omega⟩
    · obtain ⟨v, p, c, f, hsc, hc, he⟩ := hB
      have c3 : wr.cell? ⟨y + 1, 3, none⟩ = some (.int .i64 (c : Nat)) := hsc.blk.cell 3
      have c4 : wr.cell? ⟨y + 1, 4, none⟩ = some (.int .i64 (f : Nat)) := hsc.blk.cell 4
      have c2 : wr.cell? ⟨y + 1, 2, none⟩ = some v := hsc.blk.cell 2
      have hc0 : ((c : Int) == 0) = false := by simp; omega
      have HSC := Lib.hid hsc
      have HEQ := Lib.hid he
      clear hsc he hc hmk
      go_wp2_with fail
      go_region
      go_wp2
      rw [Exit.noGoto_ret]
      refine bodyPost_ret (v := .tuple #[v, .agg #[.int .i64 (c : Nat), .int .i64 (f : Nat)]]) (by simp [results, Tryz.results21, go_sem, y0, y1]) rfl ?_
      exact HEND.out _ _ _ _ _ _ HSC.out HEQ.out HBL.out _ _
end Go.Proofs.YtkcnbmgaeompjaaGreatDoor
/- The landed calls as a law sees them: Words, Quote, IsKeyword, IsName; lists of words. -/
namespace Go.Proofs.YtkcnbmgaeompjaaGreatDoor
open Go.RowKit Go.Maps
set_option linter.unusedVariables false

set_option maxRecDepth 100000 in
set_option maxHeartbeats 2000000 in
theorem words_long (s : ByteArray) (w : World) (hs : s.size ≤ maxLen) (h4 : 4096 < s.size) : Calls Tryz.prog 21 #[.string s] w (WordsP s w) := by
  have hV : wordsB s.data.toList = ([], 45, 0) := by unfold wordsB; rw [len_data, if_pos h4]
  unfold WordsP
  rw [hV]
  have HEND : Hid (∃ v, Ending.returned (.tuple #[.slice none 0 0, .agg #[.int .i64 45, .int .i64 0]]) = .returned (.tuple #[v, .agg #[.int .i64 (45 : Nat), .int .i64 (0 : Nat)]]) ∧ RowW w.heap.size (w.alloc (.cells #[.int .i64 45, .int .i64 0] 30)) v [] ∧ Below w.heap.size w (w.alloc (.cells #[.int .i64 45, .int .i64 0] 30))) := Lib.hid
    ⟨.slice none 0 0, rfl, ⟨rfl, .inl ⟨rfl, rfl⟩⟩, (Below.refl _ _).alloc (Nat.le_refl _) _⟩
  unfold maxLen at hs
  clear hV
  go_enter Tryz.func21, Tryz.ntmps21
  go_wp2_with fail
  go_step3
  go_wp2_with fail
  rw [Exit.noGoto_ret]
  refine bodyPost_ret (v := .tuple #[.slice none 0 0, .agg #[.int .i64 45, .int .i64 0]]) (by simp [results, Tryz.results21, go_sem]) rfl ?_
  exact HEND.out
theorem words_any (s : ByteArray) (w : World) (hL : Lr w) (hs : s.size ≤ maxLen) : Calls Tryz.prog 21 #[.string s] w (WordsP s w) := by
  by_cases h4 : 4096 < s.size
  · exact words_long s w hs h4
  · exact words_some s w hL (by omega)

/-! ### lists of words, as they are read -/
def Wd.at? (x : Wd) (j : Nat) : Option Value := x.cells[j]?
def LW (w : World) (v : Value) (l : List Wd) : Prop :=
  ∃ A c, v = .slice A l.length c ∧ l.length ≤ 100000 ∧ (0 < l.length → ∃ g, A = some ⟨g, 0, none⟩ ∧ g < w.heap.size ∧ ∀ k x, l[k]? = some x →
    w.cell? ⟨g, k * 3, none⟩ = some (.int .i64 (x.kind : Nat)) ∧ w.cell? ⟨g, k * 3 + 1, none⟩ = some (.string ⟨x.text.toArray⟩) ∧ w.cell? ⟨g, k * 3 + 2, none⟩ = some (.int .i64 (x.pos : Nat)))
theorem cells_len (l : List Wd) : (l.flatMap Wd.cells).length = l.length * 3 := by
  induction l with
  | nil => rfl
  | cons x l ih => rw [List.flatMap_cons, List.length_append, ih]; simp [Wd.cells]; omega
theorem cells_at : ∀ (l : List Wd) (k j : Nat) (x : Wd), l[k]? = some x → j < 3 → (l.flatMap Wd.cells)[k * 3 + j]? = x.cells[j]?
  | [], k, j, x, h, hj => by simp at h
  | y :: l, 0, j, x, h, hj => by
    have e : y = x := by simpa using h
    subst e
    rw [List.flatMap_cons, Nat.zero_mul, Nat.zero_add, List.getElem?_append_left (by simp [Wd.cells]; omega)]
  | y :: l, k + 1, j, x, h, hj => by
    have ih := cells_at l k j x (by simpa using h) hj
    rw [List.flatMap_cons, List.getElem?_append_right (by simp [Wd.cells]; omega)]
    rw [show (k + 1) * 3 + j - y.cells.length = k * 3 + j by simp [Wd.cells]; omega]
    exact ih
theorem RowW.lw {B : Nat} {w : World} {v : Value} {l : List Wd} (h : RowW B w v l) (hl : l.length ≤ 100000) : LW w v l := by
  obtain ⟨h1, h2⟩ := h
  rcases h2 with ⟨rfl, h0⟩ | ⟨g, cap, cur, rfl, hb, hh, hnc, hcm, hs, ht⟩
  · refine ⟨none, 0, by rw [h0], hl, fun h => by omega⟩
  · refine ⟨some ⟨g, 0, none⟩, cap, rfl, hl, fun h0 => ⟨g, rfl, ?_, fun k x hk => ?_⟩⟩
    · rcases Nat.lt_or_ge g w.heap.size with hlt | hge
      · exact hlt
      · rw [Array.getElem?_eq_none hge] at hh; cases hh
    · have hkl : k < l.length := (List.getElem?_eq_some_iff.1 hk).1
      have key : ∀ j, j < 3 → w.cell? ⟨g, k * 3 + j, none⟩ = x.cells[j]? := fun j hj => by
        rw [cell_of_row w g (k * 3 + j) cur 42 (0, 0) hh, ← cells_at l k j x hk hj, ← ht]
        rw [List.getElem?_take, if_pos (by omega), Array.getElem?_toList]
      exact ⟨key 0 (by omega), key 1 (by omega), key 2 (by omega)⟩
theorem LW.keep {w w' : World} {v : Value} {l : List Wd} (h : LW w v l) (hf : Fr No w w') : LW w' v l := by
  obtain ⟨A, c, e, hl, hc⟩ := h
  refine ⟨A, c, e, hl, fun h0 => ?_⟩
  obtain ⟨g, rfl, hg, hk⟩ := hc h0
  have hcell : ∀ i, w'.cell? ⟨g, i, none⟩ = w.cell? ⟨g, i, none⟩ := fun i => by
    simp only [World.cell?]
    rw [hf.block g hg id]
  refine ⟨g, rfl, Nat.lt_of_lt_of_le hg hf.size, fun k x hx => ?_⟩
  rw [hcell, hcell, hcell]
  exact hk k x hx
theorem goW_len : ∀ (f : Nat) (r : Tx) (p : Nat), (goW f r p).1.length ≤ f
  | 0, _, _ => Nat.le_refl _
  | f + 1, r, p => by
    unfold goW
    split
    · simp
    · cases wordT (r.drop (runB isBla r)) with
      | bad c on => simp
      | good k t s =>
        have := goW_len f ((r.drop (runB isBla r)).drop s) (p + runB isBla r + s)
        show (cons1 _ _).1.length ≤ _
        unfold cons1
        split
        · exact Nat.succ_le_succ this
        · simp
theorem wordsB_len (l : Tx) : (wordsB l).1.length ≤ 4097 := by
  unfold wordsB
  split
  · simp
  · have := goW_len (l.length + 1) l 0
    omega

/-- Words, as a law sees it. -/
def WordsL (l : List Wd) (c f : Nat) (w : World) (e : Ending) (w' : World) : Prop :=
  ∃ v, e = .returned (.tuple #[v, .agg #[.int .i64 (c : Nat), .int .i64 (f : Nat)]]) ∧ LW w' v l ∧ Fr No w w' ∧ (∀ g, v.ownBlock = some g → w.heap.size ≤ g) ∧ RowW w.heap.size w' v l
theorem l_words (s : ByteArray) (w : World) (hL : Lr w) (hs : s.size ≤ maxLen) {l : List Wd} {c f : Nat} (he : wordsB s.data.toList = (l, c, f)) : Calls Tryz.prog 21 #[.string s] w (WordsL l c f w) := by
  refine (words_any s w hL hs).mono ?_
  rintro e w' ⟨v, he', h1, h2⟩
  have hl := wordsB_len s.data.toList
  rw [he] at he' h1 hl
  exact ⟨v, he', h1.lw (by have h3 : l.length ≤ 4097 := hl; omega), Fr.of_below h2, fun g hg => (h1.lt g hg).1, h1⟩

/-! ### structs compared -/
theorem neq31 (a b : Int) (s : ByteArray) (w : World) : (binOp .neq 42 (.agg #[.int .i64 a, .string s, .int .i64 b]) (.agg #[.int .i64 a, .string s, .int .i64 b])).run Tryz.prog w = .ok (.bool false) w := by
  have hS : Tryz.prog.underlying 42 = some (.struct (Tryz.prog.fieldsOf 42)) := by kernel_rfl
  have hp : Tryz.prog.stoodInHeld 42 = false := by kernel_rfl
  rw [run_neq_struct, show (10000 : Nat) = 9999 + 1 from rfl, run_equalIn_agg w 9999 42 _ _ hS hp]
  simp only [Program.fieldsOf, Tryz.underlying42]
  simp [Op.eqFields, go_sem]
theorem eql31 (a b : Int) (s : ByteArray) (w : World) : (binOp .eql 42 (.agg #[.int .i64 a, .string s, .int .i64 b]) (.agg #[.int .i64 a, .string s, .int .i64 b])).run Tryz.prog w = .ok (.bool true) w := by
  have hS : Tryz.prog.underlying 42 = some (.struct (Tryz.prog.fieldsOf 42)) := by kernel_rfl
  have hp : Tryz.prog.stoodInHeld 42 = false := by kernel_rfl
  rw [run_eql_struct, show (10000 : Nat) = 9999 + 1 from rfl, run_equalIn_agg w 9999 42 _ _ hS hp]
  simp only [Program.fieldsOf, Tryz.underlying42]
  simp [Op.eqFields, go_sem]
theorem eql26 (a b c d : Int) (w : World) : (binOp .eql 30 (.agg #[.int .i64 a, .int .i64 b]) (.agg #[.int .i64 c, .int .i64 d])).run Tryz.prog w = .ok (.bool (a == c && b == d)) w := by
  have hS : Tryz.prog.underlying 30 = some (.struct (Tryz.prog.fieldsOf 30)) := by kernel_rfl
  have hp : Tryz.prog.stoodInHeld 30 = false := by kernel_rfl
  rw [run_eql_struct, show (10000 : Nat) = 9999 + 1 from rfl, run_equalIn_agg w 9999 30 _ _ hS hp]
  simp only [Program.fieldsOf, Tryz.underlying30]
  by_cases e1 : a = c <;> by_cases e2 : b = d <;> simp [Op.eqFields, go_sem, e1, e2]
theorem neq26 (a b : Int) (w : World) : (binOp .neq 30 (.agg #[.int .i64 a, .int .i64 b]) (.agg #[.int .i64 a, .int .i64 b])).run Tryz.prog w = .ok (.bool false) w := by
  have hS : Tryz.prog.underlying 30 = some (.struct (Tryz.prog.fieldsOf 30)) := by kernel_rfl
  have hp : Tryz.prog.stoodInHeld 30 = false := by kernel_rfl
  rw [run_neq_struct, show (10000 : Nat) = 9999 + 1 from rfl, run_equalIn_agg w 9999 30 _ _ hS hp]
  simp only [Program.fieldsOf, Tryz.underlying30]
  simp [Op.eqFields, go_sem]
theorem guard31 (o : BinOp) (ho : o = .eql ∨ o = .neq) : ∀ x y xs ys (w : World), (eqGuard o 42 x y (.agg xs) (.agg ys)).run Tryz.prog w = .ok () w := by
  rcases ho with rfl | rfl
  · exact fun x y xs ys w => run_eqGuard_agg w .eql 42 x y xs ys (by kernel_rfl)
  · exact fun x y xs ys w => run_eqGuard_agg w .neq 42 x y xs ys (by kernel_rfl)
theorem guard26 (o : BinOp) (ho : o = .eql ∨ o = .neq) : ∀ x y xs ys (w : World), (eqGuard o 30 x y (.agg xs) (.agg ys)).run Tryz.prog w = .ok () w := by
  rcases ho with rfl | rfl
  · exact fun x y xs ys w => run_eqGuard_agg w .eql 30 x y xs ys (by kernel_rfl)
  · exact fun x y xs ys w => run_eqGuard_agg w .neq 30 x y xs ys (by kernel_rfl)

/-! ### beside -/
theorem isKeyword_any (s : ByteArray) (w : World) (hL : Lr w) (hs : s.size ≤ maxLen) : Calls Tryz.prog 93 #[.string s] w fun e w' => e = .returned (.bool (decide (s.data.toList.map capB ∈ kws))) ∧ ∃ n, w' = w.drewN n := by
  have HK := Lib.hid (keywordOf_any s w hL hs)
  unfold KwP at HK
  have hv : decide (s.data.toList.map capB ∈ kws) = !(kwOf s.data.toList).isEmpty := by
    unfold kwOf
    by_cases h : s.data.toList.map capB ∈ kws
    · rw [if_pos h, decide_eq_true h]
      cases hk : s.data.toList.map capB with
      | nil => exact absurd hk (kws_ne h)
      | cons a b => rfl
    · rw [if_neg h, decide_eq_false h]; rfl
  have HV := Lib.hid hv
  clear hv hL hs
  generalize kwOf s.data.toList = kw at *
  go_enter Tryz.func93, Tryz.ntmps93
  go_wp2_with fail
  refine HK.out.mono ?_
  rintro e w' ⟨rfl, q, rfl⟩
  go_wp2
  go_ret
  exact ⟨ret_bool (by rw [HV.out]), _, rfl⟩
theorem run_cat (l m : Tx) (h : l.length + m.length ≤ maxLen) (w : World) : (Op.stringOp .add ⟨l.toArray⟩ ⟨m.toArray⟩).run Tryz.prog w = .ok (.string ⟨(l ++ m).toArray⟩) w := by
  rw [run_string_add_sum w _ _ (by rw [← len_data, ← len_data]; exact h), ByteArray.mk_append_mk]
set_option maxRecDepth 100000 in
theorem quote_any (s : ByteArray) (w : World) (hL : Lr w) (hs : s.size ≤ 4000000000) : Calls Tryz.prog 180 #[.string s] w fun e w' => e = .returned (.string ⟨(quoteB s.data.toList).toArray⟩) ∧ Fr No w w' := by
  have HR := Lib.hid (replDbl_any s w hL hs)
  have hdl : ∀ t : Tx, (dbl t).length ≤ 2 * t.length := by
    intro t
    induction t with
    | nil => exact Nat.le_refl _
    | cons b t ih => rw [dbl_cons]; split <;> simp <;> omega
  have hd := hdl s.data.toList
  rw [len_data] at hd
  have hc1 : ∀ w0, (Op.stringOp .add ⟨#[39]⟩ ⟨(dbl s.data.toList).toArray⟩).run Tryz.prog w0 = .ok (.string ⟨([39] ++ dbl s.data.toList).toArray⟩) w0 := fun w0 => run_cat [39] _ (by unfold maxLen; simp; omega) w0
  have hc2 : ∀ w0, (Op.stringOp .add ⟨([39] ++ dbl s.data.toList).toArray⟩ ⟨#[39]⟩).run Tryz.prog w0 = .ok (.string ⟨([39] ++ dbl s.data.toList ++ [39]).toArray⟩) w0 := fun w0 => run_cat _ [39] (by unfold maxLen; simp; omega) w0
  have HQ : Hid (quoteB s.data.toList = [39] ++ dbl s.data.toList ++ [39]) := Lib.hid rfl
  generalize dbl s.data.toList = D at *
  obtain ⟨X, hX⟩ : ∃ X, [39] ++ D = X := ⟨_, rfl⟩
  rw [hX] at HQ hc1 hc2
  obtain ⟨Y, hY⟩ : ∃ Y, X ++ [39] = Y := ⟨_, rfl⟩
  rw [hY] at HQ hc2
  clear hdl hd hX hY hL hs
  go_enter Tryz.func180, Tryz.ntmps180
  go_wp2_with fail
  refine HR.out.mono ?_
  rintro e w' ⟨rfl, hb⟩
  have HB := Lib.hid (Fr.of_below hb)
  clear hb
  go_wp2
  go_ret
  exact ⟨by rw [HQ.out]; rfl, HB.out⟩
end Go.Proofs.YtkcnbmgaeompjaaGreatDoor
/- IsName; awake; lists compared; a word as it stands. -/
namespace Go.Proofs.YtkcnbmgaeompjaaGreatDoor
open Go.RowKit Go.Maps
set_option linter.unusedVariables false

def nameB (l : Tx) : Bool := decide (l.length ≤ 32 ∧ firstB l = 2 ∧ runB goB l = l.length ∧ ¬ l.map capB ∈ kws)
def QuietB (b : Bool) (w : World) (e : Ending) (w' : World) : Prop := e = .returned (.bool b) ∧ ∃ n, w' = w.drewN n
set_option maxRecDepth 100000 in
set_option maxHeartbeats 1000000 in
theorem isName_any (s : ByteArray) (w : World) (hL : Lr w) (hs : s.size ≤ maxLen) : Calls Tryz.prog 40 #[.string s] w (QuietB (nameB s.data.toList) w) := by
  have HF := Lib.hid (first_any s w hL)
  have HR := Lib.hid (run_goes s w hL hs)
  have HK := Lib.hid (isKeyword_any s w hL hs)
  have hV : nameB s.data.toList = decide (s.size ≤ 32 ∧ firstB s.data.toList = 2 ∧ runB goB s.data.toList = s.size ∧ ¬ s.data.toList.map capB ∈ kws) := by unfold nameB; rw [len_data]
  have hle := runB_le goB s.data.toList
  rw [len_data] at hle
  rw [hV]
  clear hL hV
  unfold maxLen at hs
  obtain ⟨K, hK⟩ : ∃ K, decide (s.data.toList.map capB ∈ kws) = K := ⟨_, rfl⟩
  rw [hK] at HK
  have hK2 : (s.data.toList.map capB ∈ kws) ↔ K = true := by rw [← hK]; simp
  generalize firstB s.data.toList = F at *
  generalize runB goB s.data.toList = R at *
  clear hK
  by_cases h1 : s.size ≤ 32
  · by_cases h2 : F = 2
    · subst h2
      by_cases h3 : R = s.size
      · have h3' : ((R : Int) == (s.size : Int)) = true := by simp; omega
        have HV : Hid (decide (s.size ≤ 32 ∧ (2 : Nat) = 2 ∧ R = s.size ∧ ¬ s.data.toList.map capB ∈ kws) = !K) := Lib.hid (by
          cases K with
          | true => simp [hK2]
          | false => simp [hK2, h1, h3])
        clear hK2 h3
        go_enter Tryz.func40, Tryz.ntmps40
        go_wp2_with (first | (go_at_call 51; refine HF.out.mono ?_; rintro e w' ⟨rfl, rfl⟩) | (go_at_call 48; refine HR.out.mono ?_; rintro e w' ⟨rfl, rfl⟩) | (go_at_call 93; refine HK.out.mono ?_; rintro e w' ⟨rfl, q, rfl⟩))
        go_ret
        exact ⟨ret_bool (by rw [HV.out]), _, rfl⟩
      · have h3' : ((R : Int) == (s.size : Int)) = false := by simp; omega
        have HV : Hid (decide (s.size ≤ 32 ∧ (2 : Nat) = 2 ∧ R = s.size ∧ ¬ s.data.toList.map capB ∈ kws) = false) := Lib.hid (by simp [h3])
        clear hK2 h3
        go_enter Tryz.func40, Tryz.ntmps40
        go_wp2_with (first | (go_at_call 51; refine HF.out.mono ?_; rintro e w' ⟨rfl, rfl⟩) | (go_at_call 48; refine HR.out.mono ?_; rintro e w' ⟨rfl, rfl⟩) | (go_at_call 93; refine HK.out.mono ?_; rintro e w' ⟨rfl, q, rfl⟩))
        go_ret
        exact ⟨ret_bool (by first | rfl | rw [HV.out]), 0, rfl⟩
    · have h2' : ((F : Int) == 2) = false := by simp; omega
      have HV : Hid (decide (s.size ≤ 32 ∧ F = 2 ∧ R = s.size ∧ ¬ s.data.toList.map capB ∈ kws) = false) := Lib.hid (by simp [h2])
      clear hK2 h2
      go_enter Tryz.func40, Tryz.ntmps40
      go_wp2_with (first | (go_at_call 51; refine HF.out.mono ?_; rintro e w' ⟨rfl, rfl⟩) | (go_at_call 48; refine HR.out.mono ?_; rintro e w' ⟨rfl, rfl⟩) | (go_at_call 93; refine HK.out.mono ?_; rintro e w' ⟨rfl, q, rfl⟩))
      go_ret
      exact ⟨ret_bool (by first | rfl | rw [HV.out]), 0, rfl⟩
  · have HV : Hid (decide (s.size ≤ 32 ∧ F = 2 ∧ R = s.size ∧ ¬ s.data.toList.map capB ∈ kws) = false) := Lib.hid (by simp [h1])
    clear hK2
    go_enter Tryz.func40, Tryz.ntmps40
    go_wp2_with (first | (go_at_call 51; refine HF.out.mono ?_; rintro e w' ⟨rfl, rfl⟩) | (go_at_call 48; refine HR.out.mono ?_; rintro e w' ⟨rfl, rfl⟩) | (go_at_call 93; refine HK.out.mono ?_; rintro e w' ⟨rfl, q, rfl⟩))
    go_ret
    exact ⟨ret_bool (by first | rfl | rw [HV.out]), 0, rfl⟩

/-! ### lists compared -/
end Go.Proofs.YtkcnbmgaeompjaaGreatDoor
