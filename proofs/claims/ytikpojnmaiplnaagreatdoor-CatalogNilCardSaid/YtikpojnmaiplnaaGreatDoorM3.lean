/- A manifest's bytes, both ways. -/
import Derived.Test.YtikpojnmaiplnaaGreatDoorM2
import Derived.Shelf.Strings.BuilderK
import Derived.Test.YtikpojnmaiplnaaGreatDoorProg
import Derived.Deep.DeepCutAuto
import Derived.Deep.RegionLaw
import Derived.Deep.LoopGhost
import Derived.WalkMore
import Derived.Test.YtikpojnmaiplnaaGreatDoorM1
namespace Go.Proofs.YtikpojnmaiplnaaGreatDoor
open Go.RowKit Go.Maps
set_option linter.unusedVariables false

def maniB (l : List UInt8) : List UInt8 := (frW (WS.zero.text l)).1
theorem new_off {v v' : Value} {w w0 w' : World} (h : WL (some w.heap.size) v w0 v' w') (hw : Below w.heap.size w w0) (hv : ∀ k, v.ownBlock = some k → w.heap.size ≤ k) : Below w.heap.size w w' ∧ ∀ k, v'.ownBlock = some k → w.heap.size ≤ k := by
  refine ⟨hw.trans (h.fr.below_of hw.size fun k hk => ?_), fun k hk => ?_⟩
  · rcases hk with e | e
    · rw [← Option.some.inj e]; exact Nat.le_refl _
    · exact hv k e
  · rcases h.own k hk with e | e
    · exact hv k e
    · have := hw.size; omega
set_option maxHeartbeats 1000000 in
theorem manifestOf_any (l : List UInt8) (w : World) (hl : l.length ≤ maxLen) : Calls Tryz.prog 115 #[sv l] w fun e w' => e = .returned (sv (maniB l)) ∧ Fr No w w' := by
  have hA := WAt.new w
  obtain ⟨w0, hw0⟩ : ∃ w0, w.alloc (.cells #[.slice none 0 0, .int .i64 0] 78) = w0 := ⟨_, rfl⟩
  have hb0 : Below w.heap.size w (w.alloc (.cells #[.slice none 0 0, .int .i64 0] 78)) := (Below.refl _ _).alloc (Nat.le_refl _) _
  rw [hw0] at hA hb0
  have hv0 : ∀ k, (Value.slice none 0 0).ownBlock = some k → w.heap.size ≤ k := by simp [Value.ownBlock]
  obtain ⟨g, hg⟩ : ∃ g, w.heap.size = g := ⟨_, rfl⟩
  have HA := Lib.hid hA
  have HB0 := Lib.hid hb0
  have HW0 := Lib.hid hw0
  have HG := Lib.hid hg
  have HV0 := Lib.hid hv0
  have HL := Lib.hid hl
  have HM : Hid (maniB l = (frW (WS.zero.text l)).1) := Lib.hid rfl
  clear hA hb0 hw0 hl hv0
  rw [hg] at HA
  clear hg
  go_enter Tryz.func115, Tryz.ntmps115
  go_wp2_with fail
  rw [HW0.out, HG.out]
  have C1 := wtext_any (some g) _ _ l w0 HA.out HL.out
  rw [wpt_some] at C1
  refine C1.mono ?_
  clear C1
  rintro e w1 ⟨rfl, v1, h1, l1⟩
  have L1 := Lib.hid (new_off (w := w) (by rw [HG.out]; exact l1) HB0.out HV0.out)
  have C2 := framed_any (some g) v1 _ w1 h1
  rw [wpt_some] at C2
  have HC2 := Lib.hid C2
  clear C2 h1 l1
  generalize WS.text WS.zero l = S at *
  generalize frW S = F at *
  obtain ⟨F1, F2⟩ := F
  simp only at HM HC2
  go_wp2_with fail
  refine HC2.out.mono ?_
  rintro e w2 ⟨rfl, f2⟩
  have HF := Lib.hid ((Fr.of_below L1.out.1).trans f2 fun _ _ h => h)
  clear f2
  go_wp2
  go_ret
  exact ⟨by rw [HM.out]; first | done | rfl, HF.out⟩

/-! ### unManifest -/
def unManiW (l : List UInt8) : Int × Int :=
  if (ufR l).text.2.done = 0 ∧ ufT l = [] ∧ numW (ufR l).text.1 ≠ 0 then (numW (ufR l).text.1, 0) else (0, 27)
theorem ufR_len (l : List UInt8) : (ufR l).rest.length ≤ 65536 := by
  have h := (unf_le l).2
  exact Nat.le_trans (fail_rest _ _) h
set_option maxHeartbeats 1000000 in
theorem unManifest_any (l : List UInt8) (w : World) (hv : Vr w) (hl : l.length ≤ maxLen) :
    Calls Tryz.prog 106 #[sv l] w fun e w' => e = .returned (.tuple #[.int .i64 (unManiW l).1, .int .i64 (unManiW l).2]) ∧ Fr No w w' := by
  have HU := Lib.hid (unframed_any l w hl)
  have htl : (ufR l).text.1.length ≤ 1000000 := by
    have h1 := text_le (ufR l)
    have h2 := ufR_len l
    omega
  have HTL := Lib.hid htl
  have HV := Lib.hid hv
  have HW : Hid (unManiW l = if (ufR l).text.2.done = 0 ∧ ufT l = [] ∧ numW (ufR l).text.1 ≠ 0 then (numW (ufR l).text.1, 0) else (0, 27)) := Lib.hid rfl
  have hbd := numW_bd (ufR l).text.1
  obtain ⟨R, hR⟩ : ∃ R, ufR l = R := ⟨_, rfl⟩
  rw [hR] at HU HW HTL hbd
  obtain ⟨T, hT⟩ : ∃ T, ufT l = T := ⟨_, rfl⟩
  rw [hT] at HU HW
  clear hR hT hv hl htl
  go_enter Tryz.func106, Tryz.ntmps106
  go_wp2_with fail
  refine HU.out.mono ?_
  rintro e w1 ⟨g, rfl, h1, f1, hg⟩
  have H1 := Lib.hid h1
  have F1 := Lib.hid f1
  have HG := Lib.hid hg
  clear h1 f1 hg
  rw [wpt_some]
  go_wp2_with fail
  have C2 := rtext_any (some g) R w1 H1.out
  rw [wpt_some] at C2
  refine C2.mono ?_
  clear C2
  rintro e w2 ⟨rfl, h2, f2⟩
  have H2 := Lib.hid h2
  have F2 : Hid (Fr No w w2) := Lib.hid (F1.out.trans f2 fun k hk e => by
    have e' : g = k := Option.some.inj e
    have := HG.out
    omega)
  clear h2 f2 H1 F1
  generalize R.text = ST at *
  obtain ⟨s, S⟩ := ST
  simp only at H2 HW HTL hbd
  have HN := Lib.hid (numberOf_any s w2 (HV.out.keep F2.out) HTL.out)
  have HD := Lib.hid (rdone_any (some g) S)
  rw [wpt_some] at HD
  generalize numW s = n at *
  obtain ⟨x, hx⟩ : ∃ x, S.done = x := ⟨_, rfl⟩
  rw [hx] at HD HW
  clear hx
  go_wp2_with fail
  refine HN.out.mono ?_
  rintro e w3 ⟨rfl, f3⟩
  have H3 := Lib.hid (H2.out.keep f3)
  have F3 := Lib.hid (F2.out.trans f3 fun _ _ h => h)
  clear f3 HN
  have C4 := Lib.hid (HD.out w3 H3.out)
  unfold i64 at hbd
  by_cases a : x = 0
  · subst a
    by_cases b : T = []
    · subst b
      by_cases c : n = 0
      · subst c
        have HE : Hid (unManiW l = (0, 27)) := Lib.hid (by rw [HW.out]; simp)
        clear HW
        go_wp2_with fail
        refine C4.out.mono ?_
        rintro e w4 ⟨rfl, rfl⟩
        go_wp2
        go_ret2
        exact ⟨by rw [HE.out]; first | done | rfl, F3.out⟩
      · have HE : Hid (unManiW l = (n, 0)) := Lib.hid (by rw [HW.out, if_pos ⟨rfl, rfl, c⟩])
        have cb : (n == 0) = false := by simpa using c
        clear HW c
        go_wp2_with fail
        refine C4.out.mono ?_
        rintro e w4 ⟨rfl, rfl⟩
        go_wp2
        go_ret2
        exact ⟨by rw [HE.out]; first | done | rfl, F3.out⟩
    · have HE : Hid (unManiW l = (0, 27)) := Lib.hid (by rw [HW.out, if_neg (fun h => b h.2.1)])
      have bb : T.isEmpty = false := by simpa using b
      clear HW b
      go_wp2_with fail
      refine C4.out.mono ?_
      rintro e w4 ⟨rfl, rfl⟩
      go_wp2
      go_ret2
      exact ⟨by rw [HE.out]; first | done | rfl, F3.out⟩
  · have HE : Hid (unManiW l = (0, 27)) := Lib.hid (by rw [HW.out, if_neg (fun h => a h.1)])
    have ab : (x != 0) = true := by simpa using a
    clear HW a
    go_wp2_with fail
    refine C4.out.mono ?_
    rintro e w4 ⟨rfl, rfl⟩
    go_wp2
    go_ret2
    exact ⟨by rw [HE.out]; first | done | rfl, F3.out⟩
end Go.Proofs.YtikpojnmaiplnaaGreatDoor
/- strings.Builder's calls, by the shelf's contracts, at this program's numbers. -/
namespace Go.Proofs.YtikpojnmaiplnaaGreatDoor
open Go.Shelf Go.Proofs
def Tryz.lays169_ren : Go.Shelf.Ren := ⟨fun | 169 => 37 | n => n, fun | 70 => 70 | 9 => 9 | 0 => 0 | 72 => 72 | 37 => 65 | 127 => 149 | 3 => 3 | 5 => 5 | n => n, fun | n => n⟩
theorem Tryz.lays169 : Go.Proofs.Lays.n169 Tryz.prog Tryz.lays169_ren := {
  mixed := by kernel_rfl
  f169 := Tryz.func37.trans (congrArg some (by kernel_rfl))
  t0 := Tryz.underlying0
  a0 := Tryz.isAgg0
  z0 := Tryz.sizeOf0
  v0 := Tryz.zeroValue0
  t3 := Tryz.underlying3
  a3 := Tryz.isAgg3
  z3 := Tryz.sizeOf3
  v3 := Tryz.zeroValue3
  t9 := Tryz.underlying9
  a9 := Tryz.isAgg9
  z9 := Tryz.sizeOf9
  v9 := Tryz.zeroValue9
  t37 := Tryz.underlying65
  a37 := Tryz.isAgg65
  z37 := Tryz.sizeOf65
  v37 := Tryz.zeroValue65
  t70 := Tryz.underlying70
  a70 := Tryz.isAgg70
  z70 := Tryz.sizeOf70
  v70 := Tryz.zeroValue70
  t72 := Tryz.underlying72
  a72 := Tryz.isAgg72
  z72 := Tryz.sizeOf72
  v72 := Tryz.zeroValue72
  t127 := Tryz.underlying149
  a127 := Tryz.isAgg149
  z127 := Tryz.sizeOf149
  v127 := Tryz.zeroValue149 }
theorem Tryz.Builder_Extra_169 : Builder.Extra Tryz.prog Tryz.lays169_ren := {
  sizeBuilder := by kernel_rfl
  liesBuilder := by kernel_rfl
  t5 := Tryz.underlying5
  a5 := Tryz.isAgg5
  z5 := Tryz.sizeOf5
  v5 := Tryz.zeroValue5
  infoByte := by kernel_rfl
  cellsByte := by kernel_rfl
  sizeByte := by kernel_rfl
  neB5 := by decide }
open Go.RowKit in
/-- (*strings.Builder).String: "String returns the accumulated string.": OF A BUILDER THAT HOLDS AT LEAST ONE BYTE. ✋ THE MODEL FREEZES THOSE BYTES IN THE BUFFER (unsafe.String): a later write INTO them ends the model's run without an answer; a later append BEHIND them goes on. The statement's order of evaluation is drawn: one draw. THE FORM '_k': OVER 'Lib.IsBuilderF' (a builder that 'String()' may have read), AND WITH THE FRAME THAT REACHES ABOVE THE BUILDER: 'Lib.OthersKept': every block that is not b and is no row of uint8's stands as it stood: the iterator of a range among them. (LAID: no walk: one application.) -/
theorem Tryz.Builder_String_k (B b : Nat) (l : List UInt8) (w : World) (h : Lib.IsBuilderF 72 5 B b (Lib.byteCells l) w) (h0 : l ≠ []) :
    Calls Tryz.prog 37 #[.pointer (some ⟨b, 0, none⟩)] w fun e w' => e = .returned (.string ⟨l.toArray⟩) ∧ (Lib.IsBuilderF 72 5 B b (Lib.byteCells l) w' ∧ Below B w w' ∧ Lib.OthersKept 5 (some b) w w') := Any.Builder_String_k Tryz.lays169 Tryz.Builder_Extra_169 B b l w h h0
open Go.RowKit in
/-- (*strings.Builder).String OF A BUILDER THAT HOLDS NO BYTE: the empty string; THE FORM '_k': OVER 'Lib.IsBuilderF' (a builder that 'String()' may have read), AND WITH THE FRAME THAT REACHES ABOVE THE BUILDER: 'Lib.OthersKept': every block that is not b and is no row of uint8's stands as it stood: the iterator of a range among them. (LAID: no walk: one application.) -/
theorem Tryz.Builder_String_empty_k (B b : Nat) (w : World) (h : Lib.IsBuilderF 72 5 B b [] w) (hBw : B ≤ w.heap.size) :
    Calls Tryz.prog 37 #[.pointer (some ⟨b, 0, none⟩)] w fun e w' => e = .returned (.string ⟨#[]⟩) ∧ (Lib.IsBuilderF 72 5 B b [] w' ∧ Below B w w' ∧ Lib.OthersKept 5 (some b) w w') := Any.Builder_String_empty_k Tryz.lays169 Tryz.Builder_Extra_169 B b w h hBw
open Go.RowKit in
/-- (*strings.Builder).String: "String returns the accumulated string.": WHATEVER THE BUILDER HOLDS; THE FORM '_k': OVER 'Lib.IsBuilderF' (a builder that 'String()' may have read), AND WITH THE FRAME THAT REACHES ABOVE THE BUILDER: 'Lib.OthersKept': every block that is not b and is no row of uint8's stands as it stood: the iterator of a range among them. (LAID: no walk: one application.) -/
theorem Tryz.Builder_String_any_k (B b : Nat) (l : List UInt8) (w : World) (h : Lib.IsBuilderF 72 5 B b (Lib.byteCells l) w) (hBw : B ≤ w.heap.size) :
    Calls Tryz.prog 37 #[.pointer (some ⟨b, 0, none⟩)] w fun e w' => e = .returned (.string ⟨l.toArray⟩) ∧ (Lib.IsBuilderF 72 5 B b (Lib.byteCells l) w' ∧ Below B w w' ∧ Lib.OthersKept 5 (some b) w w') := Any.Builder_String_any_k Tryz.lays169 Tryz.Builder_Extra_169 B b l w h hBw

def Tryz.lays166_ren : Go.Shelf.Ren := ⟨fun | 166 => 78 | 240 => 135 | 276 => 173 | n => n, fun | 0 => 0 | 3 => 3 | 4 => 4 | 9 => 9 | 20 => 20 | 5 => 5 | 37 => 65 | 70 => 70 | 72 => 72 | 75 => 142 | 80 => 80 | 164 => 203 | n => n, fun | n => n⟩
theorem Tryz.lays166 : Go.Proofs.Lays.n166 Tryz.prog Tryz.lays166_ren := {
  mixed := by kernel_rfl
  f166 := Tryz.func78.trans (congrArg some (by kernel_rfl))
  f240 := Tryz.func135.trans (congrArg some (by kernel_rfl))
  f276 := Tryz.func173.trans (congrArg some (by kernel_rfl))
  t0 := Tryz.underlying0
  a0 := Tryz.isAgg0
  z0 := Tryz.sizeOf0
  v0 := Tryz.zeroValue0
  t3 := Tryz.underlying3
  a3 := Tryz.isAgg3
  z3 := Tryz.sizeOf3
  v3 := Tryz.zeroValue3
  t4 := Tryz.underlying4
  a4 := Tryz.isAgg4
  z4 := Tryz.sizeOf4
  v4 := Tryz.zeroValue4
  t9 := Tryz.underlying9
  a9 := Tryz.isAgg9
  z9 := Tryz.sizeOf9
  v9 := Tryz.zeroValue9
  t20 := Tryz.underlying20
  a20 := Tryz.isAgg20
  z20 := Tryz.sizeOf20
  v20 := Tryz.zeroValue20
  t37 := Tryz.underlying65
  a37 := Tryz.isAgg65
  z37 := Tryz.sizeOf65
  v37 := Tryz.zeroValue65
  t70 := Tryz.underlying70
  a70 := Tryz.isAgg70
  z70 := Tryz.sizeOf70
  v70 := Tryz.zeroValue70
  t72 := Tryz.underlying72
  a72 := Tryz.isAgg72
  z72 := Tryz.sizeOf72
  v72 := Tryz.zeroValue72
  t75 := Tryz.underlying142
  a75 := Tryz.isAgg142
  z75 := Tryz.sizeOf142
  v75 := Tryz.zeroValue142
  t164 := Tryz.underlying203
  a164 := Tryz.isAgg203
  z164 := Tryz.sizeOf203
  v164 := Tryz.zeroValue203 }
theorem Tryz.Builder_Extra_166 : Builder.Extra Tryz.prog Tryz.lays166_ren where
  sizeBuilder := by kernel_rfl
  liesBuilder := by kernel_rfl
  t5 := Tryz.underlying5
  a5 := Tryz.isAgg5
  z5 := Tryz.sizeOf5
  v5 := Tryz.zeroValue5
  infoByte := by kernel_rfl
  cellsByte := by kernel_rfl
  sizeByte := by kernel_rfl
  neB5 := by decide
open Go.RowKit in
theorem Tryz.Builder_WriteString_k (B b : Nat) (bs : List Value) (s : ByteArray) (w : World) (h : Lib.IsBuilderF 72 5 B b bs w) (hlen : bs.length + s.size ≤ 140737488355328) (hBw : B ≤ w.heap.size) :
    Calls Tryz.prog 78 #[.pointer (some ⟨b, 0, none⟩), .string s] w fun e w' => e = .returned (.tuple #[.int .i64 s.size, .nilIface]) ∧ (Lib.BuilderAtF 72 5 B b (.pointer (some ⟨b, 0, none⟩)) (bs ++ Lib.strCells s) w' ∧ Below B w w' ∧ Lib.OthersKept 5 (some b) w w') := Any.Builder_WriteString_k Tryz.lays166 Tryz.Builder_Extra_166 B b bs s w h hlen hBw
end Go.Proofs.YtikpojnmaiplnaaGreatDoor
/- A builder beside other things; a frame laid behind what it holds. -/
namespace Go.Proofs.YtikpojnmaiplnaaGreatDoor
open Go.RowKit Go.Maps
set_option linter.unusedVariables false

/-- A builder in block b, its row behind it. -/
def Bd (w : World) (b : Nat) (l : List UInt8) : Prop := Lib.IsBuilderF 72 5 b b (Lib.byteCells l) w
theorem BuilderAtF_keep {B b : Nat} {p : Value} {bs : List Value} {w w' : World} (h : Lib.BuilderAtF 72 5 B b p bs w) (hf : Fr No w w') : Lib.BuilderAtF 72 5 B b p bs w' := by
  obtain ⟨h0, v, hb, ho, hne⟩ := h
  refine ⟨h0, v, ?_, ⟨ho.1, ?_⟩, hne⟩
  · rw [hf.block b (Array.getElem?_eq_some_iff.1 hb).1 id]; exact hb
  · rcases ho.2 with hn | ⟨g, cap, cur, fz, hv, hB, hg, rest⟩
    · exact .inl hn
    · refine .inr ⟨g, cap, cur, fz, hv, hB, ?_, rest⟩
      rw [hf.block g (Array.getElem?_eq_some_iff.1 hg).1 id]; exact hg
theorem Bd.keep {w w' : World} {b : Nat} {l : List UInt8} (h : Bd w b l) (hf : Fr No w w') : Bd w' b l :=
  h.elim (fun x => .inl (BuilderAtF_keep x hf)) fun x => .inr (BuilderAtF_keep x hf)
theorem Bd.lt {w : World} {b : Nat} {l : List UInt8} (h : Bd w b l) : b < w.heap.size := h.elim Lib.BuilderAtF.lt Lib.BuilderAtF.lt
theorem Bd.new (w : World) : Bd (w.alloc (.cells #[.pointer none, .slice none 0 0] 72)) w.heap.size [] := Lib.IsBuilderF.of (Lib.fresh_isBuilder 72 5 w)
set_option maxHeartbeats 1000000 in
theorem catlay_any (b : Nat) (l : List UInt8) (p : Option Nat) (v : Value) (S : WS) (w : World) (hB : Bd w b l) (h : WAt w p v S) (hl : l.length ≤ 140737488000000) :
    Calls Tryz.prog 34 #[.pointer (some ⟨b, 0, none⟩), wpt p] w fun e w' => e = .returned (.int .i64 (frW S).2) ∧ Bd w' b (l ++ (frW S).1) ∧ Below b w w' := by
  have HF := Lib.hid (framed_any p v S w h)
  have hlen : (frW S).1.length ≤ 65544 := by
    have := h.len
    unfold frW
    split
    · unfold frameR
      rw [List.length_append, List.length_append, low_len, low_len]
      omega
    · simp
  have HB := Lib.hid hB
  have HLT := Lib.hid hB.lt
  clear h hB
  generalize hP : wpt p = P at *
  clear hP
  generalize frW S = FS at *
  obtain ⟨B, f⟩ := FS
  simp only at HF hlen
  have hsz : (ByteArray.mk B.toArray).size = B.length := sz B
  have HWR : Hid (∀ w1, Bd w1 b l → b ≤ w1.heap.size → Calls Tryz.prog 78 #[.pointer (some ⟨b, 0, none⟩), sv B] w1 fun e w' => e = .returned (.tuple #[.int .i64 (B.length : Nat), .nilIface]) ∧ Bd w' b (l ++ B) ∧ Below b w1 w') := Lib.hid fun w1 h1 h2 => by
    refine (Tryz.Builder_WriteString_k b b (Lib.byteCells l) ⟨B.toArray⟩ w1 h1 (by rw [Lib.byteCells_length, hsz]; omega) h2).mono ?_
    rintro e w' ⟨rfl, hb, hbl, _⟩
    refine ⟨by rw [hsz], ?_, hbl⟩
    unfold Bd
    rw [Lib.byteCells_append]
    exact .inr hb
  clear hsz hlen hl
  go_enter Tryz.func34, Tryz.ntmps34
  go_wp2_with fail
  refine HF.out.mono ?_
  rintro e w1 ⟨rfl, f1⟩
  have F1 := Lib.hid f1
  clear f1
  have C2 := Lib.hid (HWR.out w1 (HB.out.keep F1.out) (Nat.le_trans (Nat.le_of_lt HLT.out) F1.out.size))
  clear HWR
  go_wp2_with fail
  refine C2.out.mono ?_
  rintro e w2 ⟨rfl, h2, b2⟩
  have H2 := Lib.hid h2
  have B2 := Lib.hid b2
  clear h2 b2
  go_wp2
  go_ret
  exact ⟨rfl, H2.out, (F1.out.below.mono (Nat.le_of_lt HLT.out)).trans B2.out⟩
end Go.Proofs.YtikpojnmaiplnaaGreatDoor
/- What a checkpoint's writer lays down ahead of its batches. -/
namespace Go.Proofs.YtikpojnmaiplnaaGreatDoor
open Go.RowKit Go.Maps
set_option linter.unusedVariables false

/-- A writer of one's own: all its blocks are new since B. -/
def WNew (B : Nat) (w0 w : World) (g : Nat) (v : Value) (S : WS) : Prop := WAt w (some g) v S ∧ Below B w0 w ∧ B ≤ g ∧ (∀ k, v.ownBlock = some k → B ≤ k)
theorem WNew.call {B : Nat} {w0 w w' : World} {g : Nat} {v : Value} {S S' : WS} {e : Ending} (h : WNew B w0 w g v S) (hB : B ≤ w.heap.size) (k : WP (some g) v w S' e w') : e = .returned (.tuple #[]) ∧ ∃ v', WNew B w0 w' g v' S' := by
  obtain ⟨rfl, v', h1, l1⟩ := k
  refine ⟨rfl, v', h1, h.2.1.trans (l1.fr.below_of hB fun j hj => ?_), h.2.2.1, fun j hj => ?_⟩
  · rcases hj with e | e
    · rw [← Option.some.inj e]; exact h.2.2.1
    · exact h.2.2.2 j e
  · rcases l1.own j hj with e | e
    · exact h.2.2.2 j e
    · omega
theorem WNew.off {B : Nat} {w0 w : World} {g : Nat} {v : Value} {S : WS} (h : WNew B w0 w g v S) {K : Nat → Prop} (hK : ∀ k, K k → k < B) (hB : B ≤ w.heap.size) : Off (some g) v w K := fun k hk => by
  have := hK k hk
  refine ⟨by omega, fun e => ?_⟩
  rcases e with e | e
  · have e' : g = k := Option.some.inj e
    have := h.2.2.1; omega
  · have := h.2.2.2 k e; omega
theorem WNew.size {B : Nat} {w0 w : World} {g : Nat} {v : Value} {S : WS} (h : WNew B w0 w g v S) : w0.heap.size ≤ w.heap.size := h.2.1.size

set_option maxRecDepth 100000 in
set_option maxHeartbeats 2000000 in
theorem headOf_any (K : Nat → Prop) (c : CkP) (dv mv vv bv : Value) (w : World) (h : CkAt K w c dv mv vv bv) (hK : ∀ k, K k → k < w.heap.size) :
    Calls Tryz.prog 35 #[ckv c dv mv vv bv] w fun e w' => ∃ g v, e = .returned (wpt (some g)) ∧ WNew w.heap.size w w' g v (headW c) := by
  obtain ⟨seq, dims, meas, views, bats⟩ := c
  unfold ckv
  obtain ⟨A1, n1, k1, A2, n2, k2, A3, n3, k3, A4, n4, k4, rfl, rfl, rfl, rfl⟩ := h.forms
  obtain ⟨_, _, e3', hm3, _⟩ := h.views
  obtain ⟨_, _, e4', hm4, _⟩ := h.bats
  have en3 : n3 = views.length := by simpa using congrArg (fun v : Value => match v with | .slice _ n _ => n | _ => 0) e3'
  have en4 : n4 = bats.length := by simpa using congrArg (fun v : Value => match v with | .slice _ n _ => n | _ => 0) e4'
  obtain ⟨B, hB⟩ : ∃ B, w.heap.size = B := ⟨_, rfl⟩
  obtain ⟨wa, hwa⟩ : ∃ wa, w.alloc (.cells #[.int .i64 seq, .slice A1 n1 k1, .slice A2 n2 k2, .slice A3 n3 k3, .slice A4 n4 k4] 28) = wa := ⟨_, rfl⟩
  have hbx : Blk wa B 28 #[.int .i64 seq, .slice A1 n1 k1, .slice A2 n2 k2, .slice A3 n3 k3, .slice A4 n4 k4] := by rw [← hwa, ← hB]; exact Blk.new w 28 _
  have bw : Below B w wa := by rw [← hwa, ← hB]; exact (Below.refl _ _).alloc (Nat.le_refl _) _
  have hsa : wa.heap.size = B + 1 := by rw [← hwa, ← hB]; simp
  obtain ⟨wb, hwb⟩ : ∃ wb, wa.alloc (.cells #[.slice none 0 0, .int .i64 0] 78) = wb := ⟨_, rfl⟩
  have hN0 : WNew (B + 1) wa wb (B + 1) (.slice none 0 0) WS.zero := by
    refine ⟨by rw [← hwb, ← hsa]; exact WAt.new wa, by rw [← hwb]; exact (Below.refl _ _).alloc (by omega) _, Nat.le_refl _, by simp [Value.ownBlock]⟩
  have hKB : ∀ k, K k → k < B + 1 := fun k hk => by have := hK k hk; omega
  -- what lies in the box, in any later world
  have hx : ∀ (w1 : World) (v : Value) (S : WS), WNew (B + 1) wa w1 (B + 1) v S → Blk w1 B 28 #[.int .i64 seq, .slice A1 n1 k1, .slice A2 n2 k2, .slice A3 n3 k3, .slice A4 n4 k4] := fun _ _ _ h => hbx.of (h.2.1.block B (by omega))
  have hck : ∀ (w1 : World) (v : Value) (S : WS), WNew (B + 1) wa w1 (B + 1) v S → CkAt K w1 ⟨seq, dims, meas, views, bats⟩ (.slice A1 n1 k1) (.slice A2 n2 k2) (.slice A3 n3 k3) (.slice A4 n4 k4) := fun w1 v S h1 => h.of fun k hk => by
    have := hK k hk
    rw [h1.2.1.block k (by omega), bw.block k (by omega)]
  have hsz : ∀ (w1 : World) (v : Value) (S : WS), WNew (B + 1) wa w1 (B + 1) v S → B + 1 ≤ w1.heap.size := fun _ _ _ h1 => by have := h1.size; omega
  have HX := Lib.hid hx
  have HCK := Lib.hid hck
  have HSZ := Lib.hid hsz
  have HKB := Lib.hid hKB
  have HH : Hid (headW ⟨seq, dims, meas, views, bats⟩ = (views.foldl WS.int (((WS.zero.int seq).schema dims meas).count views.length)).count bats.length) := Lib.hid rfl
  have HBW := Lib.hid bw
  have HN0 := Lib.hid hN0
  have HWA := Lib.hid hwa
  have HWB := Lib.hid hwb
  have HB := Lib.hid hB
  have HN3 := Lib.hid en3
  have HN4 := Lib.hid en4
  have hb3 : n3 ≤ 9223372036854775807 := by have h3 : views.length ≤ maxLen := hm3; unfold maxLen at h3; omega
  clear hbx bw hsa hN0 hwb hwa hKB hx hck hsz h hK e3' e4' hm3 hm4 en3 en4 hB
  go_enter Tryz.func35, Tryz.ntmps35
  go_wp2_with fail
  rw [HWA.out, HWB.out, HB.out]
  have C1 := wint_any (some (B + 1)) _ _ seq wb HN0.out.1
  rw [wpt_some] at C1
  refine C1.mono ?_
  clear C1
  intro e w1 hw
  obtain ⟨rfl, v1, h1⟩ := HN0.out.call (HSZ.out _ _ _ HN0.out) hw
  have C2 := wschema_any (some (B + 1)) v1 _ K _ _ dims meas w1 h1.1 (HCK.out _ _ _ h1).dims (HCK.out _ _ _ h1).meas (h1.off HKB.out (HSZ.out _ _ _ h1))
  rw [wpt_some] at C2
  have HC2 := Lib.hid C2
  have x1 : w1.cell? ⟨B, 1, none⟩ = some (.slice A1 n1 k1) := (HX.out _ _ _ h1).cell 1
  have x2 : w1.cell? ⟨B, 2, none⟩ = some (.slice A2 n2 k2) := (HX.out _ _ _ h1).cell 2
  have H1 := Lib.hid h1
  clear C2 h1 hw
  go_wp2_with fail
  refine HC2.out.mono ?_
  clear HC2 x1 x2
  intro e w2 hw
  obtain ⟨rfl, v2, h2⟩ := H1.out.call (HSZ.out _ _ _ H1.out) hw
  have C3 := wcount_any (some (B + 1)) v2 _ (n3 : Int) w2 h2.1
  rw [wpt_some] at C3
  have HC3 := Lib.hid C3
  have x3 : w2.cell? ⟨B, 3, none⟩ = some (.slice A3 n3 k3) := (HX.out _ _ _ h2).cell 3
  have H2 := Lib.hid h2
  clear C3 h2 hw H1
  go_wp2_with fail
  refine HC3.out.mono ?_
  clear HC3 x3
  intro e w3 hw
  obtain ⟨rfl, v3, h3⟩ := H2.out.call (HSZ.out _ _ _ H2.out) hw
  have x3 : w3.cell? ⟨B, 3, none⟩ = some (.slice A3 n3 k3) := (HX.out _ _ _ h3).cell 3
  have H3 := Lib.hid h3
  clear h3 hw H2
  obtain ⟨S3, hS3⟩ : ∃ S3, (((WS.zero.int seq).schema dims meas).count (n3 : Int)) = S3 := ⟨_, rfl⟩
  have HH2 : Hid (headW ⟨seq, dims, meas, views, bats⟩ = (views.foldl WS.int S3).count (n4 : Int)) := Lib.hid (by rw [HH.out, ← HN3.out, ← HN4.out, hS3])
  rw [hS3] at H3
  clear hS3 HH
  go_wp2
  go_loopw [24] (fun i wr => ∃ j : Nat, ∃ v, j ≤ n3 ∧ i = .int .i64 j ∧ WNew (B + 1) wa wr (B + 1) v ((views.take j).foldl WS.int S3)) (fun i _ => n3 - (intOf i).toNat)
  case atStart => exact ⟨0, v3, by omega, rfl, H3.out⟩
  case round =>
    obtain ⟨j, v4, hj, rfl, h4⟩ := hrel
    by_cases hlt : j < n3
    · have hjl : j < views.length := by rw [← HN3.out]; exact hlt
      obtain ⟨A', c', e', _, hel⟩ := (HCK.out _ _ _ h4).views
      injection e' with ea eb ec
      subst ea
      obtain ⟨g, off, rfl, hg, hcell⟩ := hel (by omega)
      obtain ⟨cs, hlen, hcs2, rfl, hmx⟩ := hcell j hjl
      have hc : _ = some (Value.int .i64 views[j]) := hcs2 0 (by omega)
      simp only [Nat.mul_one, Nat.add_zero] at hc
      have C4 := wint_any (some (B + 1)) v4 _ views[j] wr h4.1
      rw [wpt_some] at C4
      have HC4 := Lib.hid C4
      have H4 := Lib.hid h4
      clear hcell hcs2 h4 hlen hmx C4 hel eb ec
      go_wp2_with fail
      refine HC4.out.mono ?_
      clear HC4
      intro e w5 hw
      obtain ⟨rfl, v5, h5⟩ := H4.out.call (HSZ.out _ _ _ H4.out) hw
      have H5 := Lib.hid h5
      clear h5 hw H4 hc
      go_wp2
      go_roundw
      case rel => exact ⟨j + 1, v5, by omega, by go_num, by rw [fold_snoc _ _ _ _ hjl]; exact H5.out⟩
      case measure => simp [intOf]; omega
    · obtain rfl : j = n3 := by omega
      have C6 := wcount_any (some (B + 1)) v4 _ (n4 : Int) wr h4.1
      rw [wpt_some] at C6
      have HC6 := Lib.hid C6
      have x4 : wr.cell? ⟨B, 4, none⟩ = some (.slice A4 n4 k4) := (HX.out _ _ _ h4).cell 4
      have H4 := Lib.hid h4
      clear h4 C6
      go_wp2_with fail
      refine HC6.out.mono ?_
      clear HC6
      intro e w6 hw
      obtain ⟨rfl, v6, h6⟩ := H4.out.call (HSZ.out _ _ _ H4.out) hw
      have H6 := Lib.hid h6
      clear h6 hw H4 x4
      go_wp2
      go_ret
      refine ⟨B + 1, v6, rfl, ?_⟩
      rw [HH2.out]
      have h6 := H6.out
      rw [HN3.out, List.take_length] at h6
      rw [HB.out]
      exact ⟨h6.1, HBW.out.trans (h6.2.1.mono (by omega)), by omega, fun k hk => by have := h6.2.2.2 k hk; omega⟩
end Go.Proofs.YtikpojnmaiplnaaGreatDoor
/- A checkpoint's bytes. -/
namespace Go.Proofs.YtikpojnmaiplnaaGreatDoor
open Go.RowKit Go.Maps
set_option linter.unusedVariables false

theorem frW_ok {S : WS} (h : S.fault = 0) : frW S = (frameR S.data, 0) := by unfold frW; rw [if_pos h]
theorem frW_no {S : WS} (h : S.fault ≠ 0) : frW S = ([], S.fault) := by unfold frW; rw [if_neg h]
theorem frameR_len (l : List UInt8) : (frameR l).length = 8 + l.length := by
  unfold frameR
  rw [List.length_append, List.length_append, low_len, low_len]
theorem catB_step {bats : List (List FactP)} {acc : List UInt8} {j : Nat} (hj : j < bats.length) : catB (bats.drop j) acc = if (WS.zero.facts bats[j]).fault = 0 then catB (bats.drop (j + 1)) (acc ++ frameR (WS.zero.facts bats[j]).data) else ([], (WS.zero.facts bats[j]).fault) := by
  rw [List.drop_eq_getElem_cons hj]; rfl
set_option maxRecDepth 100000 in
set_option maxHeartbeats 2000000 in
theorem bytes_any (K : Nat → Prop) (c : CkP) (dv mv vv bv : Value) (w : World) (h : CkAt K w c dv mv vv bv) (hK : ∀ k, K k → k < w.heap.size) (hn : c.bats.length ≤ 2000000000) :
    Calls Tryz.prog 11 #[ckv c dv mv vv bv] w fun e w' => e = .returned (.tuple #[sv (bytesP c).1, .int .i64 (bytesP c).2]) ∧ Fr No w w' := by
  obtain ⟨seq, dims, meas, views, bats⟩ := c
  obtain ⟨A1, n1, k1, A2, n2, k2, A3, n3, k3, A4, n4, k4, rfl, rfl, rfl, rfl⟩ := h.forms
  obtain ⟨_, _, e4', hm4, _⟩ := h.bats
  have en4 : n4 = bats.length := by simpa using congrArg (fun v : Value => match v with | .slice _ n _ => n | _ => 0) e4'
  obtain ⟨B, hB⟩ : ∃ B, w.heap.size = B := ⟨_, rfl⟩
  obtain ⟨wa, hwa⟩ : ∃ wa, w.alloc (.cells #[.int .i64 seq, .slice A1 n1 k1, .slice A2 n2 k2, .slice A3 n3 k3, .slice A4 n4 k4] 28) = wa := ⟨_, rfl⟩
  have hbx : Blk wa B 28 #[.int .i64 seq, .slice A1 n1 k1, .slice A2 n2 k2, .slice A3 n3 k3, .slice A4 n4 k4] := by rw [← hwa, ← hB]; exact Blk.new w 28 _
  have bw : Below B w wa := by rw [← hwa, ← hB]; exact (Below.refl _ _).alloc (Nat.le_refl _) _
  have hsa : wa.heap.size = B + 1 := by rw [← hwa, ← hB]; simp
  by_cases hs : seq < 0
  · have HV : Hid (bytesP ⟨seq, dims, meas, views, bats⟩ = ([], 1)) := Lib.hid (by unfold bytesP; rw [if_pos hs])
    have hlt : decide (seq < 0) = true := by simpa using hs
    have HBW := Lib.hid bw
    have HWA := Lib.hid hwa
    have HB := Lib.hid hB
    unfold ckv
    clear h hK hn e4' hm4 en4 hbx bw hsa hwa hB
    go_enter Tryz.func11, Tryz.ntmps11
    go_wp2
    go_ret2
    exact ⟨by rw [HV.out]; rfl, by rw [HWA.out]; exact Fr.of_below (by rw [HB.out]; exact HBW.out)⟩
  · have hge : 0 ≤ seq := by omega
    have hlt : decide (seq < 0) = false := by simpa using hge
    have HV : Hid (bytesP ⟨seq, dims, meas, views, bats⟩ = if (headW ⟨seq, dims, meas, views, bats⟩).fault = 0 then catB bats (frameR (headW ⟨seq, dims, meas, views, bats⟩).data) else ([], (headW ⟨seq, dims, meas, views, bats⟩).fault)) := Lib.hid (by unfold bytesP; rw [if_neg hs])
    obtain ⟨wb, hwb⟩ : ∃ wb, wa.alloc (.cells #[.pointer none, .slice none 0 0] 72) = wb := ⟨_, rfl⟩
    have hBd : Bd wb (B + 1) [] := by rw [← hwb, ← hsa]; exact Bd.new wa
    have hbb : Below (B + 1) wa wb := by rw [← hwb]; exact (Below.refl _ _).alloc (by omega) _
    have hsb : wb.heap.size = B + 2 := by rw [← hwb]; simp [hsa]
    have hck : ∀ (w1 : World), Below (B + 1) wa w1 → CkAt K w1 ⟨seq, dims, meas, views, bats⟩ (.slice A1 n1 k1) (.slice A2 n2 k2) (.slice A3 n3 k3) (.slice A4 n4 k4) := fun w1 h1 => h.of fun k hk => by
      have := hK k hk
      rw [h1.block k (by omega), bw.block k (by omega)]
    have hx : ∀ (w1 : World), Below (B + 1) wa w1 → Blk w1 B 28 #[.int .i64 seq, .slice A1 n1 k1, .slice A2 n2 k2, .slice A3 n3 k3, .slice A4 n4 k4] := fun _ h => hbx.of (h.block B (by omega))
    have hsz : ∀ (w1 : World), Below (B + 1) wa w1 → B + 1 ≤ w1.heap.size := fun _ h1 => by have := h1.size; omega
    have C1 := headOf_any K ⟨seq, dims, meas, views, bats⟩ _ _ _ _ wb (hck _ hbb) (fun k hk => by have := hK k hk; omega)
    unfold ckv at C1 ⊢
    rw [hsb] at C1
    have HC1 := Lib.hid C1
    have HCK := Lib.hid hck
    have HX := Lib.hid hx
    have HSZ := Lib.hid hsz
    have HBB := Lib.hid hbb
    have HBD := Lib.hid hBd
    have HSB := Lib.hid hsb
    have HBW := Lib.hid bw
    have HWA := Lib.hid hwa
    have HWB := Lib.hid hwb
    have HB := Lib.hid hB
    have HN4 := Lib.hid en4
    have HNN := Lib.hid hn
    have HKK : Hid (∀ k, K k → k < B) := Lib.hid fun k hk => by have := hK k hk; omega
    have hb4 : n4 ≤ 9223372036854775807 := by have h4 : bats.length ≤ maxLen := hm4; unfold maxLen at h4; omega
    clear h hK hn e4' hm4 en4 hbx bw hsa hwa hB hs hwb hBd hbb hsb hck hx hsz C1
    go_enter Tryz.func11, Tryz.ntmps11
    go_wp2_with fail
    rw [HWA.out, HWB.out, HB.out]
    refine HC1.out.mono ?_
    rintro e w1 ⟨g, v1, rfl, h1⟩
    have hbd1 : Bd w1 (B + 1) [] := HBD.out.keep (Fr.of_below (by rw [HSB.out]; exact h1.2.1))
    have hbl1 : Below (B + 1) wa w1 := HBB.out.trans (h1.2.1.mono (by omega))
    have C2 := catlay_any (B + 1) [] (some g) v1 _ w1 hbd1 h1.1 (by simp)
    have hdl := h1.1.len
    generalize headW ⟨seq, dims, meas, views, bats⟩ = S0 at *
    rw [wpt_some] at C2
    by_cases hf0 : S0.fault = 0
    · rw [frW_ok hf0] at C2
      rw [if_pos hf0] at HV
      have hal : (frameR S0.data).length ≤ 65544 := by rw [frameR_len]; omega
      generalize frameR S0.data = acc0 at *
      rw [List.nil_append] at C2
      have HC2 := Lib.hid C2
      have HBL1 := Lib.hid hbl1
      have HAL := Lib.hid hal
      clear C2 hbl1 h1 hbd1 hf0 hdl HC1 hal
      go_wp2_with fail
      refine HC2.out.mono ?_
      rintro e w2 ⟨rfl, h2, b2⟩
      have hbl2 := HBL1.out.trans b2
      have x4 : w2.cell? ⟨B, 4, none⟩ = some (.slice A4 n4 k4) := (HX.out _ hbl2).cell 4
      have H2 := Lib.hid h2
      have HBL2 := Lib.hid hbl2
      clear h2 b2 hbl2 HC2 HBL1
      go_wp2
      go_loopw [22] (fun i wr => ∃ (j : Nat) (acc : List UInt8), j ≤ n4 ∧ i = .int .i64 j ∧ Bd wr (B + 1) acc ∧ Below (B + 1) wa wr ∧ acc.length ≤ 65544 * (j + 1) ∧ catB (bats.drop j) acc = catB bats acc0) (fun i _ => n4 - (intOf i).toNat)
      case atStart => exact ⟨0, acc0, by omega, rfl, H2.out, HBL2.out, by have := HAL.out; omega, rfl⟩
      case round =>
        obtain ⟨j, acc, hj, rfl, hbd, hbl, hacc, hcat⟩ := hrel
        by_cases hlt : j < n4
        · have hjl : j < bats.length := by rw [← HN4.out]; exact hlt
          rw [catB_step hjl] at hcat
          obtain ⟨A', c', e', _, hel⟩ := (HCK.out _ hbl).bats
          injection e' with ea eb ec
          subst ea
          obtain ⟨g, off, rfl, hg, hcell⟩ := hel (by omega)
          obtain ⟨cs, hlen, hcs2, vb, rfl, hrow⟩ := hcell j hjl
          have hc : _ = some vb := hcs2 0 (by omega)
          simp only [Nat.mul_one, Nat.add_zero] at hc
          obtain ⟨Ab, nb, cb, rfl⟩ := hrow.slice
          obtain ⟨G, hG⟩ : ∃ G, wr.heap.size = G := ⟨_, rfl⟩
          obtain ⟨wc, hwc⟩ : ∃ wc, wr.alloc (.cells #[.slice none 0 0, .int .i64 0] 78) = wc := ⟨_, rfl⟩
          have hN : WNew G wr wc G (.slice none 0 0) WS.zero := by
            refine ⟨by rw [← hwc, ← hG]; exact WAt.new wr, by rw [← hwc]; exact (Below.refl _ _).alloc (by omega) _, Nat.le_refl _, by simp [Value.ownBlock]⟩
          have hGB : B + 1 ≤ G := by rw [← hG]; exact HSZ.out _ hbl
          have hrow' := hrow.factOf (w' := wc) fun k hk => by
            have := HKK.out k hk
            rw [← hwc]; exact ((Below.refl wr.heap.size wr).alloc (Nat.le_refl _) _).block k (by omega)
          have C3 := wfacts_any (some G) _ _ K _ bats[j] wc hN.1 hrow' (hN.off (fun k hk => by have := HKK.out k hk; omega) (by rw [← hwc]; simp [hG]))
          rw [wpt_some] at C3
          have HC3 := Lib.hid C3
          have HNW := Lib.hid hN
          have HWC := Lib.hid hwc
          have HG := Lib.hid hG
          have HGB := Lib.hid hGB
          have HBD2 := Lib.hid hbd
          have HBL := Lib.hid hbl
          have HCAT := Lib.hid hcat
          have HACC := Lib.hid hacc
          generalize bats[j] = bj at *
          clear hcell hcs2 hlen hel eb ec hrow hrow' C3 hN hG hGB hbd hbl hcat hacc hwc
          go_wp2_with fail
          rw [HWC.out, HG.out]
          refine HC3.out.mono ?_
          clear HC3
          intro e w5 hw
          obtain ⟨rfl, v5, h5⟩ := HNW.out.call (by rw [← HWC.out]; simp [HG.out]) hw
          have hbd5 : Bd w5 (B + 1) acc := HBD2.out.keep (Fr.of_below (by rw [HG.out]; exact h5.2.1))
          have hbl5 : Below (B + 1) wa w5 := HBL.out.trans (h5.2.1.mono HGB.out)
          have hal5 : acc.length ≤ 140737488000000 := by have h1 := HACC.out; have h2 : bats.length ≤ 2000000000 := HNN.out; have h3 := HN4.out; omega
          have C6 := catlay_any (B + 1) acc (some G) v5 _ w5 hbd5 h5.1 hal5
          rw [wpt_some] at C6
          have hdl := h5.1.len
          generalize WS.zero.facts bj = S5 at *
          by_cases hf : S5.fault = 0
          · rw [frW_ok hf] at C6
            rw [if_pos hf] at HCAT
            have HC6 := Lib.hid C6
            have HBL5 := Lib.hid hbl5
            have HLN : Hid ((acc ++ frameR S5.data).length ≤ 65544 * (j + 1 + 1)) := Lib.hid (by rw [List.length_append, frameR_len]; have := HACC.out; omega)
            clear C6 hbl5 hbd5 hf hdl h5 hal5 hc hw HACC
            go_wp2_with fail
            refine HC6.out.mono ?_
            rintro e w6 ⟨rfl, h6, b6⟩
            have H6 := Lib.hid h6
            have HB6 := Lib.hid (HBL5.out.trans b6)
            clear h6 b6 HC6 HBL5
            go_wp2
            go_roundw
            case rel => exact ⟨j + 1, _, by omega, by go_num, H6.out, HB6.out, HLN.out, HCAT.out⟩
            case measure => simp [intOf]; omega
          · rw [frW_no hf] at C6
            rw [if_neg hf] at HCAT
            have HC6 := Lib.hid C6
            have HBL5 := Lib.hid hbl5
            have hfb : (S5.fault != 0) = true := by simpa using hf
            generalize S5.fault = f5 at *
            clear C6 hbl5 hbd5 hf hdl h5 hal5 hc hw HACC
            go_wp2_with fail
            refine HC6.out.mono ?_
            rintro e w6 ⟨rfl, h6, b6⟩
            have HB6 := Lib.hid (HBL5.out.trans b6)
            clear h6 b6 HC6 HBL5
            go_wp2
            go_ret2
            exact ⟨by rw [HV.out, ← HCAT.out]; rfl, Fr.of_below (by rw [HB.out]; exact HBW.out.trans (HB6.out.mono (by omega)))⟩
        · obtain rfl : j = n4 := by omega
          have C7 := Tryz.Builder_String_any_k (B + 1) (B + 1) acc wr hbd (HSZ.out _ hbl)
          have HC7 := Lib.hid C7
          have HBL := Lib.hid hbl
          have HCAT : Hid (catB bats acc0 = (acc, 0)) := Lib.hid (by rw [← hcat, HN4.out, List.drop_length]; rfl)
          clear hbd hbl hcat hacc C7
          go_wp2_with fail
          refine HC7.out.mono ?_
          rintro e w8 ⟨rfl, _, b8, _⟩
          have HB8 := Lib.hid (HBL.out.trans b8)
          clear b8 HC7 HBL
          go_wp2
          go_ret2
          exact ⟨by rw [HV.out, HCAT.out]; rfl, Fr.of_below (by rw [HB.out]; exact HBW.out.trans (HB8.out.mono (by omega)))⟩
    · rw [frW_no hf0] at C2
      rw [if_neg hf0] at HV
      have HC2 := Lib.hid C2
      have HBL1 := Lib.hid hbl1
      have hfb : (S0.fault != 0) = true := by simpa using hf0
      generalize S0.fault = f0 at *
      clear C2 hbl1 h1 hbd1 hf0 hdl HC1
      go_wp2_with fail
      refine HC2.out.mono ?_
      rintro e w2 ⟨rfl, h2, b2⟩
      have HB2 := Lib.hid (HBL1.out.trans b2)
      clear h2 b2 HC2 HBL1
      go_wp2
      go_ret2
      exact ⟨by rw [HV.out]; rfl, Fr.of_below (by rw [HB.out]; exact HBW.out.trans (HB2.out.mono (by omega)))⟩
end Go.Proofs.YtikpojnmaiplnaaGreatDoor
/- The document's reader in memory: Fail, take, Done, Byte, Int. -/
namespace Go.Proofs.YtikpojnmaiplnaaGreatDoor
open Go.RowKit Go.Maps
set_option linter.unusedVariables false

/-- How it lies. -/
structure KDAt (w : World) (g : Nat) (S : RS) : Prop where
  blk : Blk w g 97 #[sv S.rest, .int .i64 S.fault]
  len : S.rest.length ≤ 1073741824
def DFt (g k : Nat) : Prop := g = k
theorem KDAt.of {w w' : World} {g : Nat} {S : RS} (h : KDAt w g S) (hk : w'.heap[g]? = w.heap[g]?) : KDAt w' g S := ⟨h.blk.of hk, h.len⟩
theorem KDAt.lt {w : World} {g : Nat} {S : RS} (h : KDAt w g S) : g < w.heap.size := h.blk.lt
theorem KDAt.keep {w w' : World} {g : Nat} {S : RS} (h : KDAt w g S) (hb : Fr No w w') : KDAt w' g S := h.of (hb.block g h.lt id)
theorem KDAt.new (w : World) (l : List UInt8) (hl : l.length ≤ 1073741824) : KDAt (w.alloc (.cells #[sv l, .int .i64 0] 97)) w.heap.size ⟨l, 0⟩ := ⟨Blk.new w 97 _, hl⟩
/-- A call of it that tells v. -/
def DP (g : Nat) (w : World) (v : Value) (S' : RS) (e : Ending) (w' : World) : Prop := e = .returned v ∧ KDAt w' g S' ∧ Fr (DFt g) w w'
def dpt (g : Nat) : Value := .pointer (some ⟨g, 0, Option.none⟩)

theorem dfail_any (g : Nat) (S : RS) (n : Int) (w : World) (h : KDAt w g S) : Calls Tryz.prog 101 #[dpt g, .int .i64 n] w (DP g w (.tuple #[]) (S.fail n)) := by
  have c0 : w.cell? ⟨g, 0, none⟩ = some (sv S.rest) := h.blk.cell 0
  have c1 : w.cell? ⟨g, 1, none⟩ = some (.int .i64 S.fault) := h.blk.cell 1
  have f0 := h.blk.frozen 0
  have f1 := h.blk.frozen 1
  have H := Lib.hid h
  clear h
  unfold dpt
  by_cases h0 : S.fault = 0
  · rw [h0] at c1
    by_cases hn : n = 0
    · have HV : Hid (S.fail n = S) := Lib.hid (by unfold RS.fail; rw [if_neg (by simp [hn])])
      subst hn
      clear h0
      go_enter Tryz.func101, Tryz.ntmps101
      go_wp2
      go_end0
      exact ⟨rfl, by rw [HV.out]; exact H.out, Fr.refl _ _⟩
    · have HV : Hid (S.fail n = ⟨[], n⟩) := Lib.hid (by unfold RS.fail; rw [if_pos ⟨hn, h0⟩])
      have hd : (n != 0) = true := by simpa using hn
      have he : (n == 0) = false := by simpa using hn
      clear h0 hn
      go_enter Tryz.func101, Tryz.ntmps101
      go_wp2
      go_end0
      refine ⟨rfl, ?_, ((Fr.refl (DFt g) w).setCell (p := ⟨g, 1, none⟩) (fun _ => (rfl : g = g)) _).setCell (p := ⟨g, 0, none⟩) (fun _ => (rfl : g = g)) _⟩
      rw [HV.out]
      exact ⟨(H.out.blk.set_ 1 _).set_ 0 _, by simp⟩
  · have HV : Hid (S.fail n = S) := Lib.hid (by unfold RS.fail; rw [if_neg (by simp [h0])])
    have hd : (S.fault == 0) = false := by simpa using h0
    clear h0
    go_enter Tryz.func101, Tryz.ntmps101
    go_wp2
    go_end0
    exact ⟨rfl, by rw [HV.out]; exact H.out, Fr.refl _ _⟩
theorem ddone_any (g : Nat) (S : RS) (w : World) (h : KDAt w g S) : Calls Tryz.prog 51 #[dpt g] w fun e w' => e = .returned (.int .i64 S.done) ∧ w = w' := by
  have c0 : w.cell? ⟨g, 0, none⟩ = some (sv S.rest) := h.blk.cell 0
  have c1 : w.cell? ⟨g, 1, none⟩ = some (.int .i64 S.fault) := h.blk.cell 1
  clear h
  unfold dpt
  obtain ⟨R, f⟩ := S
  by_cases h0 : f = 0
  · subst h0
    cases hr : R.isEmpty with
    | true =>
      have HV : Hid (RS.done ⟨R, 0⟩ = 0) := Lib.hid (by unfold RS.done; rw [if_neg (by simpa using hr)])
      go_enter Tryz.func51, Tryz.ntmps51
      go_wp2
      go_ret
      exact ⟨ret_int HV.out.symm, rfl⟩
    | false =>
      have HV : Hid (RS.done ⟨R, 0⟩ = 22) := Lib.hid (by unfold RS.done; rw [if_pos (by simpa using hr)])
      go_enter Tryz.func51, Tryz.ntmps51
      go_wp2
      go_ret
      exact ⟨ret_int HV.out.symm, rfl⟩
  · have HV : Hid (RS.done ⟨R, f⟩ = f) := Lib.hid (by unfold RS.done; rw [if_neg (by simp [h0])])
    have hd : (f == 0) = false := by simpa using h0
    clear h0
    go_enter Tryz.func51, Tryz.ntmps51
    go_wp2
    go_ret
    exact ⟨ret_int HV.out.symm, rfl⟩

set_option maxHeartbeats 1000000 in
theorem dtake_any (g : Nat) (S : RS) (n : Nat) (w : World) (h : KDAt w g S) : Calls Tryz.prog 98 #[dpt g, .int .i64 n] w (DP g w (sv (S.take n).1) (S.take n).2) := by
  have c0 : w.cell? ⟨g, 0, none⟩ = some (sv S.rest) := h.blk.cell 0
  have c1 : w.cell? ⟨g, 1, none⟩ = some (.int .i64 S.fault) := h.blk.cell 1
  have f0 := h.blk.frozen 0
  have f1 := h.blk.frozen 1
  have H := Lib.hid h
  by_cases h0 : S.fault = 0
  · rw [h0] at c1
    by_cases hl : S.rest.length < n
    · have HV : Hid (S.take n = ([], ⟨[], 20⟩)) := Lib.hid (by unfold RS.take; rw [if_pos h0, if_pos hl])
      have HF := Lib.hid (dfail_any g S 20 w h)
      have HE : Hid (S.fail 20 = ⟨[], 20⟩) := Lib.hid (by unfold RS.fail; rw [if_pos ⟨by decide, h0⟩])
      have hlt : ((S.rest.length : Nat) : Int) < (n : Int) := by omega
      have hlr := h.len
      unfold dpt at HF ⊢
      clear h h0 hl
      go_enter Tryz.func98, Tryz.ntmps98
      go_wp2_with fail
      refine HF.out.mono ?_
      rintro e w1 ⟨rfl, h1, f1'⟩
      rw [HE.out] at h1
      have H1 := Lib.hid h1
      have F1 := Lib.hid f1'
      clear h1 f1'
      go_wp2
      go_ret
      exact ⟨by rw [HV.out]; rfl, by rw [HV.out]; exact H1.out, F1.out⟩
    · have HV : Hid (S.take n = (S.rest.take n, ⟨S.rest.drop n, 0⟩)) := Lib.hid (by unfold RS.take; rw [if_pos h0, if_neg hl])
      have hlt : (n : Int) ≤ ((S.rest.length : Nat) : Int) := by omega
      have hlr := h.len
      have hbk := h.blk
      rw [h0] at hbk
      have HW : Hid (KDAt (w.setCell ⟨g, 0, none⟩ (sv (S.rest.drop n))) g ⟨S.rest.drop n, 0⟩) := Lib.hid ⟨hbk.set_ 0 _, by simp; omega⟩
      clear hbk
      have hx : (ByteArray.mk S.rest.toArray).extract 0 n = ⟨(S.rest.take n).toArray⟩ := by rw [ext_list, List.drop_zero]
      have hy : (ByteArray.mk S.rest.toArray).extract n S.rest.length = ⟨(S.rest.drop n).toArray⟩ := by rw [ext_list, List.take_length]
      unfold dpt
      clear h h0 hl
      go_enter Tryz.func98, Tryz.ntmps98
      go_wp2
      go_ret
      refine ⟨by rw [HV.out]; first | rfl | (simp only [hx]; rfl), ?_, (Fr.refl (DFt g) w).setCell (p := ⟨g, 0, none⟩) (fun _ => (rfl : g = g)) _⟩
      rw [HV.out]
      exact HW.out
  · have HV : Hid (S.take n = ([], S)) := Lib.hid (by unfold RS.take; rw [if_neg h0])
    have hd : (S.fault != 0) = true := by simpa using h0
    unfold dpt
    clear h h0
    go_enter Tryz.func98, Tryz.ntmps98
    go_wp2
    go_ret
    exact ⟨by rw [HV.out]; rfl, by rw [HV.out]; exact H.out, Fr.refl _ _⟩
end Go.Proofs.YtikpojnmaiplnaaGreatDoor
/- The document's reader: Byte, Int, Count, many, Text. -/
namespace Go.Proofs.YtikpojnmaiplnaaGreatDoor
open Go.RowKit Go.Maps
set_option linter.unusedVariables false

theorem of_l (l : List UInt8) (hl : l.length ≤ 8) (w : World) : Calls Tryz.prog 97 #[sv l] w fun e w' => e = .returned (.int .u64 (num l : Nat)) ∧ w = w' := of_any ⟨l.toArray⟩ w (by rw [sz]; exact hl)
set_option maxHeartbeats 400000 in
theorem dint_any (g : Nat) (S : RS) (w : World) (h : KDAt w g S) : Calls Tryz.prog 48 #[dpt g] w (DP g w (.int .i64 S.int.1) S.int.2) := by
  have HT : Hid (Calls Tryz.prog 98 #[dpt g, .int .i64 8] w (DP g w (sv (S.take 8).1) (S.take 8).2)) := Lib.hid (dtake_any g S 8 w h)
  have hl := take_len S 8
  have HN : Hid (∀ w, Calls Tryz.prog 97 #[sv (S.take 8).1] w fun e w' => e = .returned (.int .u64 (num (S.take 8).1 : Nat)) ∧ w = w') := Lib.hid fun w => of_l _ (by omega) w
  have HV : Hid (S.int = (IntKind.i64.wrap (num (S.take 8).1 : Nat), (S.take 8).2)) := Lib.hid rfl
  clear h hl
  generalize (S.take 8).1 = B at *
  generalize (S.take 8).2 = S1 at *
  generalize num B = n at *
  obtain ⟨m, hm⟩ : ∃ m, IntKind.i64.wrap (n : Int) = m := ⟨_, rfl⟩
  rw [hm] at HV
  generalize dpt g = P at *
  go_enter Tryz.func48, Tryz.ntmps48
  go_wp2_with fail
  refine HT.out.mono ?_
  rintro e w1 ⟨rfl, h1, f1⟩
  have H1 := Lib.hid h1
  have F1 := Lib.hid f1
  clear h1 f1
  go_wp2_with (go_at_call 97; refine (HN.out _).mono ?_; rintro e w' ⟨rfl, rfl⟩)
  go_ret
  exact ⟨by rw [HV.out]; rfl, by rw [HV.out]; exact H1.out, F1.out⟩
theorem Fr.thenD {g : Nat} {a b c : World} (h : Fr (DFt g) a b) (k : Fr (DFt g) b c) : Fr (DFt g) a c := h.then k
/-- A count that is told: what is too great fails, what is stopped tells 0. -/
theorem take_num_stop (S : RS) (n : Nat) (h : (S.take n).2.fault ≠ 0) : num (S.take n).1 = 0 := by
  unfold RS.take at h ⊢
  split at h
  · split at h
    · rename_i h0 h1; simp only [h0, if_true, h1]; rfl
    · exact absurd rfl h
  · rename_i h0; simp only [h0, if_false]; rfl
set_option maxHeartbeats 1000000 in
theorem dcnt_any (g : Nat) (S : RS) (most : Int) (w : World) (h : KDAt w g S) : Calls Tryz.prog 50 #[dpt g, .int .i64 most] w (DP g w (.int .i64 ((S.count most).1 : Nat)) (S.count most).2) := by
  have HT : Hid (Calls Tryz.prog 98 #[dpt g, .int .i64 4] w (DP g w (sv (S.take 4).1) (S.take 4).2)) := Lib.hid (dtake_any g S 4 w h)
  have hl := take_len S 4
  have hn : num (S.take 4).1 < 4294967296 := num_le _ 4 hl
  have hz := take_num_stop S 4
  have HN : Hid (∀ w, Calls Tryz.prog 97 #[sv (S.take 4).1] w fun e w' => e = .returned (.int .u64 (num (S.take 4).1 : Nat)) ∧ w = w') := Lib.hid fun w => of_l _ (by omega) w
  have HV : Hid (S.count most = if ((num (S.take 4).1 : Nat) : Int) > most then (0, (S.take 4).2.fail 23) else (if (S.take 4).2.fault = 0 then num (S.take 4).1 else 0, (S.take 4).2)) := Lib.hid rfl
  clear h hl
  generalize (S.take 4).1 = B at *
  generalize (S.take 4).2 = S1 at *
  generalize num B = n at *
  by_cases h0 : S1.fault = 0
  · by_cases hgt : (n : Int) > most
    · have HV2 : Hid (S.count most = (0, ⟨[], 23⟩)) := Lib.hid (by rw [HV.out, if_pos hgt]; unfold RS.fail; rw [if_pos ⟨by decide, h0⟩])
      have HE : Hid (S1.fail 23 = ⟨[], 23⟩) := Lib.hid (by unfold RS.fail; rw [if_pos ⟨by decide, h0⟩])
      have hd : decide (most < (n : Int)) = true := by simpa using hgt
      have H0 := Lib.hid h0
      clear HV hgt hz h0
      unfold dpt at HT ⊢
      go_enter Tryz.func50, Tryz.ntmps50
      go_wp2_with fail
      refine HT.out.mono ?_
      rintro e w1 ⟨rfl, h1, f1⟩
      have c1 : w1.cell? ⟨g, 1, none⟩ = some (.int .i64 0) := by have := h1.blk.cell 1; rw [H0.out] at this; exact this
      have HF := Lib.hid (dfail_any g S1 23 w1 h1)
      have F1 := Lib.hid f1
      unfold dpt at HF
      clear h1 f1
      go_wp2_with fail
      refine (HN.out _).mono ?_
      rintro e w2 ⟨rfl, rfl⟩
      go_wp2_with fail
      refine HF.out.mono ?_
      rintro e w3 ⟨rfl, h3, f3⟩
      rw [HE.out] at h3
      have c3 : w3.cell? ⟨g, 1, none⟩ = some (.int .i64 23) := h3.blk.cell 1
      have H3 := Lib.hid h3
      have F3 := Lib.hid f3
      clear h3 f3 c1
      go_wp2
      go_ret
      exact ⟨by rw [HV2.out]; rfl, by rw [HV2.out]; exact H3.out, F1.out.thenD F3.out⟩
    · have HV2 : Hid (S.count most = (n, S1)) := Lib.hid (by rw [HV.out, if_neg hgt, if_pos h0])
      have hd : decide (most < (n : Int)) = false := by simpa using hgt
      have H0 := Lib.hid h0
      clear HV hgt hz h0
      unfold dpt at HT ⊢
      go_enter Tryz.func50, Tryz.ntmps50
      go_wp2_with fail
      refine HT.out.mono ?_
      rintro e w1 ⟨rfl, h1, f1⟩
      have c1 : w1.cell? ⟨g, 1, none⟩ = some (.int .i64 0) := by have := h1.blk.cell 1; rw [H0.out] at this; exact this
      have H1 := Lib.hid h1
      have F1 := Lib.hid f1
      clear h1 f1
      go_wp2_with fail
      refine (HN.out _).mono ?_
      rintro e w2 ⟨rfl, rfl⟩
      go_wp2
      go_ret
      exact ⟨by rw [HV2.out]; rfl, by rw [HV2.out]; exact H1.out, F1.out⟩
  · have HV2 : Hid (S.count most = (0, S1)) := Lib.hid (by
      rw [HV.out]
      split
      · unfold RS.fail; rw [if_neg (by simp [h0])]
      · first | rfl | rw [if_neg h0])
    have hd : (S1.fault == 0) = false := by simpa using h0
    have hd2 : (S1.fault != 0) = true := by simpa using h0
    obtain rfl := hz h0
    clear HV h0 hz
    unfold dpt at HT ⊢
    go_enter Tryz.func50, Tryz.ntmps50
    go_wp2_with fail
    refine HT.out.mono ?_
    rintro e w1 ⟨rfl, h1, f1⟩
    have c1 : w1.cell? ⟨g, 1, none⟩ = some (.int .i64 S1.fault) := h1.blk.cell 1
    have H1 := Lib.hid h1
    have F1 := Lib.hid f1
    clear h1 f1
    go_wp2_with fail
    refine (HN.out _).mono ?_
    rintro e w2 ⟨rfl, rfl⟩
    go_wp2
    go_ret
    exact ⟨by rw [HV2.out]; rfl, by rw [HV2.out]; exact H1.out, F1.out⟩
set_option maxHeartbeats 1000000 in
theorem dmany_any (g : Nat) (S : RS) (k : Nat) (hk : 0 < k) (hk8 : k ≤ 8) (w : World) (h : KDAt w g S) : Calls Tryz.prog 99 #[dpt g, .int .i64 k] w (DP g w (.int .i64 ((S.many k).1 : Nat)) (S.many k).2) := by
  have HT : Hid (Calls Tryz.prog 98 #[dpt g, .int .i64 4] w (DP g w (sv (S.take 4).1) (S.take 4).2)) := Lib.hid (dtake_any g S 4 w h)
  have hl := take_len S 4
  have hn : num (S.take 4).1 < 4294967296 := num_le _ 4 hl
  have hz := take_num_stop S 4
  have hr : (S.take 4).2.rest.length ≤ 1073741824 := Nat.le_trans (take_rest S 4) h.len
  have HN : Hid (∀ w, Calls Tryz.prog 97 #[sv (S.take 4).1] w fun e w' => e = .returned (.int .u64 (num (S.take 4).1 : Nat)) ∧ w = w') := Lib.hid fun w => of_l _ (by omega) w
  have HV : Hid (S.many k = if num (S.take 4).1 > (S.take 4).2.rest.length / k then (0, (S.take 4).2.fail 20) else (num (S.take 4).1, (S.take 4).2)) := Lib.hid rfl
  clear h hl
  generalize (S.take 4).1 = B at *
  generalize (S.take 4).2 = S1 at *
  obtain ⟨q, hq⟩ : ∃ q, S1.rest.length / k = q := ⟨_, rfl⟩
  have hqq : ((S1.rest.length : Nat) : Int) / (k : Int) = (q : Int) := by rw [← hq]; omega
  have hqr : q ≤ 1073741824 := by rw [← hq]; exact Nat.le_trans (Nat.div_le_self _ _) hr
  rw [hq] at HV
  clear hq
  generalize num B = n at *
  have hk0 : ((k : Int) == 0) = false := by rw [beq_eq_false_iff_ne]; omega
  by_cases h0 : S1.fault = 0
  · have H0 := Lib.hid h0
    by_cases hgt : q < n
    · have HV2 : Hid (S.many k = (0, ⟨[], 20⟩)) := Lib.hid (by rw [HV.out, if_pos hgt]; unfold RS.fail; rw [if_pos ⟨by decide, h0⟩])
      have HE : Hid (S1.fail 20 = ⟨[], 20⟩) := Lib.hid (by unfold RS.fail; rw [if_pos ⟨by decide, h0⟩])
      clear HV hz h0
      unfold dpt at HT ⊢
      go_enter Tryz.func99, Tryz.ntmps99
      go_wp2_with fail
      refine HT.out.mono ?_
      rintro e w1 ⟨rfl, h1, f1⟩
      have c0 : w1.cell? ⟨g, 0, none⟩ = some (sv S1.rest) := h1.blk.cell 0
      have c1 : w1.cell? ⟨g, 1, none⟩ = some (.int .i64 0) := by have := h1.blk.cell 1; rw [H0.out] at this; exact this
      have HF := Lib.hid (dfail_any g S1 20 w1 h1)
      have F1 := Lib.hid f1
      unfold dpt at HF
      clear h1 f1
      go_wp2_with fail
      refine (HN.out _).mono ?_
      rintro e w2 ⟨rfl, rfl⟩
      go_wp2_with fail
      refine HF.out.mono ?_
      rintro e w3 ⟨rfl, h3, f3⟩
      rw [HE.out] at h3
      have c3 : w3.cell? ⟨g, 1, none⟩ = some (.int .i64 20) := h3.blk.cell 1
      have H3 := Lib.hid h3
      have F3 := Lib.hid f3
      clear h3 f3 c1 c0
      go_wp2
      go_ret
      exact ⟨by rw [HV2.out]; rfl, by rw [HV2.out]; exact H3.out, F1.out.thenD F3.out⟩
    · have HV2 : Hid (S.many k = (n, S1)) := Lib.hid (by rw [HV.out, if_neg hgt])
      have hle : n ≤ q := by omega
      clear HV hz h0 hgt
      unfold dpt at HT ⊢
      go_enter Tryz.func99, Tryz.ntmps99
      go_wp2_with fail
      refine HT.out.mono ?_
      rintro e w1 ⟨rfl, h1, f1⟩
      have c0 : w1.cell? ⟨g, 0, none⟩ = some (sv S1.rest) := h1.blk.cell 0
      have c1 : w1.cell? ⟨g, 1, none⟩ = some (.int .i64 0) := by have := h1.blk.cell 1; rw [H0.out] at this; exact this
      have H1 := Lib.hid h1
      have F1 := Lib.hid f1
      clear h1 f1
      go_wp2_with fail
      refine (HN.out _).mono ?_
      rintro e w2 ⟨rfl, rfl⟩
      go_wp2
      go_ret
      exact ⟨by rw [HV2.out]; rfl, by rw [HV2.out]; exact H1.out, F1.out⟩
  · obtain rfl := hz h0
    have HV2 : Hid (S.many k = (0, S1)) := Lib.hid (by rw [HV.out, if_neg (by omega)])
    have hd : (S1.fault == 0) = false := by simpa using h0
    have hd2 : (S1.fault != 0) = true := by simpa using h0
    clear HV h0 hz
    unfold dpt at HT ⊢
    go_enter Tryz.func99, Tryz.ntmps99
    go_wp2_with fail
    refine HT.out.mono ?_
    rintro e w1 ⟨rfl, h1, f1⟩
    have c1 : w1.cell? ⟨g, 1, none⟩ = some (.int .i64 S1.fault) := h1.blk.cell 1
    have H1 := Lib.hid h1
    have F1 := Lib.hid f1
    clear h1 f1
    go_wp2_with fail
    refine (HN.out _).mono ?_
    rintro e w2 ⟨rfl, rfl⟩
    go_wp2
    go_ret
    exact ⟨by rw [HV2.out]; rfl, by rw [HV2.out]; exact H1.out, F1.out⟩
set_option maxHeartbeats 400000 in
theorem dtext_r (g : Nat) (S : RS) (w : World) (h : KDAt w g S) : Calls Tryz.prog 100 #[dpt g] w (DP g w (sv S.text.1) S.text.2) := by
  have HM : Hid (Calls Tryz.prog 99 #[dpt g, .int .i64 1] w (DP g w (.int .i64 ((S.many 1).1 : Nat)) (S.many 1).2)) := Lib.hid (dmany_any g S 1 (by omega) (by omega) w h)
  have HV : Hid (S.text = (S.many 1).2.take (S.many 1).1) := Lib.hid rfl
  clear h
  generalize (S.many 1).1 = n at *
  generalize (S.many 1).2 = S1 at *
  generalize hP : dpt g = P at *
  have HP := Lib.hid hP
  clear hP
  go_enter Tryz.func100, Tryz.ntmps100
  go_wp2_with fail
  refine HM.out.mono ?_
  rintro e w1 ⟨rfl, h1, f1⟩
  have F1 := Lib.hid f1
  have H2 := Lib.hid (dtake_any g S1 n w1 h1)
  rw [HP.out] at H2
  clear h1 f1
  go_wp2_with (go_at_call 98; refine H2.out.mono ?_; rintro e w2 ⟨rfl, h2, f2⟩)
  go_ret
  exact ⟨by rw [HV.out]; rfl, by rw [HV.out]; exact h2, F1.out.thenD f2⟩
end Go.Proofs.YtikpojnmaiplnaaGreatDoor
/- The document's reader takes up a cell. -/
namespace Go.Proofs.YtikpojnmaiplnaaGreatDoor
open Go.RowKit Go.Maps
set_option linter.unusedVariables false

def set3 (w : World) (g : Nat) (u0 u1 u2 : Value) : World := ((w.setCell ⟨g, 0, none⟩ u0).setCell ⟨g, 1, none⟩ u1).setCell ⟨g, 2, none⟩ u2
theorem set3_fin {g gr : Nat} {w w7 : World} {S1 : RS} (h7 : KDAt w7 g S1) (F7 : Fr (DFt g) w w7) (hne : g ≠ gr) (hgr : w.heap.size ≤ gr) (u0 u1 u2 : Value) : KDAt (set3 w7 gr u0 u1 u2) g S1 ∧ Fr (DFt g) w (set3 w7 gr u0 u1 u2) := by
  unfold set3
  refine ⟨h7.of ?_, ?_⟩
  · rw [Below.heap_setCell _ _ _ g hne, Below.heap_setCell _ _ _ g hne, Below.heap_setCell _ _ _ g hne]
  · have hlt : ¬ gr < w.heap.size := by omega
    exact ((F7.setCell (p := ⟨gr, 0, none⟩) (fun h => absurd h hlt) _).setCell (p := ⟨gr, 1, none⟩) (fun h => absurd h hlt) _).setCell (p := ⟨gr, 2, none⟩) (fun h => absurd h hlt) _
end Go.Proofs.YtikpojnmaiplnaaGreatDoor
/- The document's reader takes up any cell. -/
namespace Go.Proofs.YtikpojnmaiplnaaGreatDoor
open Go.RowKit Go.Maps
set_option linter.unusedVariables false

end Go.Proofs.YtikpojnmaiplnaaGreatDoor
/- The document's reader takes up texts, cells. -/
namespace Go.Proofs.YtikpojnmaiplnaaGreatDoor
open Go.RowKit Go.Maps
set_option linter.unusedVariables false

theorem Grow.nil0 {α : Type} (b e size : Nat) (E : (Nat → Prop) → World → α → List Value → Prop) (w : World) : Grow b e size E w (.slice none 0 0) ([] : List α) :=
  ⟨fun _ => False, [], ⟨by simp, .inl ⟨rfl, rfl⟩⟩, fun j h => absurd h (by simp), fun k h => h.elim⟩
/-- A call of the document's reader that tells a row. -/
def DPr {α : Type} (g : Nat) (w : World) (size : Nat) (E : (Nat → Prop) → World → α → List Value → Prop) (l : List α) (S' : RS) (e : Ending) (w' : World) : Prop :=
  ∃ V, e = .returned V ∧ KDAt w' g S' ∧ Fr (DFt g) w w' ∧ RowE (fun k => w.heap.size ≤ k) w' size (E (fun k => w.heap.size ≤ k) w') V l
set_option maxRecDepth 100000 in
set_option maxHeartbeats 4000000 in
theorem dtexts_r (g : Nat) (S : RS) (w : World) (h : KDAt w g S) : Calls Tryz.prog 49 #[dpt g] w (DPr g w 1 strG (S.several RS.text 4).1 (S.several RS.text 4).2) := by
  obtain ⟨b, hb⟩ : ∃ b, w.heap.size = b := ⟨_, rfl⟩
  have hpb : ∀ j, DFt g j → j < b := fun j hj => by have := h.lt; unfold DFt at hj; omega
  have hml := many_le S 4
  have hsl := h.len
  have HM := Lib.hid (dmany_any g S 4 (by omega) (by omega) w h)
  have HV : Hid (S.several RS.text 4 = (if (seq RS.text (S.many 4).1 (S.many 4).2).2.fault = 0 then (seq RS.text (S.many 4).1 (S.many 4).2).1 else [], (seq RS.text (S.many 4).1 (S.many 4).2).2)) := Lib.hid rfl
  have PB := Lib.hid hpb
  have hn : (S.many 4).1 ≤ 1073741824 := by omega
  have HBS := Lib.hid (show b = w.heap.size from hb.symm)
  generalize (S.many 4).1 = n at *
  generalize (S.many 4).2 = S1 at *
  clear h hpb hml hsl
  unfold dpt at HM ⊢
  go_enter Tryz.func49, Tryz.ntmps49
  go_wp2_with fail
  refine HM.out.mono ?_
  rintro e w1 ⟨rfl, h1, f1⟩
  have H1 := Lib.hid h1
  have F1 := Lib.hid f1
  clear h1 f1 hb
  go_wp2
  go_loopw [4, 5] (fun v i wr => ∃ j : Nat, ∃ A c, j ≤ n ∧ i = .int .i64 j ∧ v = .slice A j c ∧ Grow b 9 1 strG wr (.slice A j c) (seq RS.text j S1).1 ∧ KDAt wr g (seq RS.text j S1).2 ∧ Fr (DFt g) w wr) (fun _ i _ => n - (intOf i).toNat)
  case atStart => exact ⟨0, _, _, by omega, rfl, rfl, Grow.nil0 _ _ _ _ _, H1.out, F1.out⟩
  case round =>
    obtain ⟨j, A, c, hj, rfl, rfl, hg, hr, hf⟩ := hrel
    have HG := Lib.hid hg
    have HR0 := Lib.hid hr
    have HF := Lib.hid hf
    have HQ : Hid (seq RS.text (j + 1) S1 = ((seq RS.text j S1).1 ++ [(RS.text (seq RS.text j S1).2).1], (RS.text (seq RS.text j S1).2).2)) := Lib.hid rfl
    have HL := Lib.hid (seq_len RS.text S1 j)
    clear hg hr hf
    by_cases hlt : j < n
    · go_wp2_with fail
      have HC := dtext_r g (seq RS.text j S1).2 wr HR0.out
      unfold dpt  at HC
      refine HC.mono ?_
      clear HC
      rintro e w3 ⟨rfl, h3, f3⟩
      have hg3 := HG.out.keep strG_elem f3 PB.out
      have hel : strG (fun x => wr.heap.size ≤ x) w3 (RS.text (seq RS.text j S1).2).1 [sv (RS.text (seq RS.text j S1).2).1] := ⟨rfl, by have := text_le (seq RS.text j S1).2; have := HR0.out.len; unfold maxLen; omega⟩
      obtain ⟨A', c', w4, hap, hg4, f4, hlt4⟩ := hg3.more strG_elem (w0 := wr) (by rw [HBS.out]; exact HF.out.size) f3.size (fun x hx => (HG.out.lt x hx).2) 22 Tryz.underlying22 (.string ⟨#[]⟩) info9 rfl (by omega) _ [sv (RS.text (seq RS.text j S1).2).1] rfl (by simp [Value.oneCell']) hel (by rw [HL.out]; omega) (by rw [HL.out]; unfold maxLen; omega)
      rw [HL.out] at hap hg4
      have h4 : KDAt w4 g (RS.text (seq RS.text j S1).2).2 := h3.of (f4.block g h3.lt fun hx => by have := (HG.out.lt g hx).1; have := PB.out g rfl; omega)
      have hf4 : Fr (DFt g) w w4 := (HF.out.thenD f3).trans f4 fun x hlx hx => by have := (HG.out.lt x hx).1; have := HBS.out; omega
      have HAP := Lib.hid hap
      have HG4 : Hid (Grow b 9 1 strG w4 (.slice A' (j + 1) c') (seq RS.text (j + 1) S1).1) := Lib.hid (by rw [HQ.out]; exact hg4)
      have HR4 : Hid (KDAt w4 g (seq RS.text (j + 1) S1).2) := Lib.hid (by rw [HQ.out]; exact h4)
      have HF4 := Lib.hid hf4
      clear h3 f3 hg3 hel hap hg4 f4 hlt4 h4 hf4
      go_wp2_with (at_builtin; refine wpList_add rfl _ _ _ _ rfl _ _ _ _ rfl rfl (HAP.out _) ?_)
      go_roundw
      case rel => exact ⟨j + 1, A', c', by omega, by go_num, by go_num, HG4.out, HR4.out, HF4.out⟩
      case measure => simp [intOf]; omega
    · obtain rfl : j = n := by omega
      have e1 : wr.cell? ⟨g, 1, none⟩ = some (.int .i64 (seq RS.text j S1).2.fault) := HR0.out.blk.cell 1
      by_cases hz : (seq RS.text j S1).2.fault = 0
      · rw [hz] at e1
        have HE : Hid (S.several RS.text 4 = seq RS.text j S1) := Lib.hid (by rw [HV.out, if_pos hz])
        have hrow := HG.out.row strG_elem (by rw [HL.out]; unfold maxLen; omega)
        rw [HBS.out] at hrow
        have HROW := Lib.hid hrow
        clear hz hrow
        go_wp2
        go_ret
        exact ⟨_, rfl, by rw [HE.out]; exact HR0.out, HF.out, by rw [HE.out]; exact HROW.out⟩
      · have hd : ((seq RS.text j S1).2.fault != 0) = true := by simpa using hz
        have HE : Hid (S.several RS.text 4 = ([], (seq RS.text j S1).2)) := Lib.hid (by rw [HV.out, if_neg hz])
        clear hz
        go_wp2
        go_ret
        exact ⟨_, rfl, by rw [HE.out]; exact HR0.out, HF.out, by rw [HE.out]; exact RowE.nil _ _ _ _ _⟩
end Go.Proofs.YtikpojnmaiplnaaGreatDoor
/- The document's reader takes up cells. -/
namespace Go.Proofs.YtikpojnmaiplnaaGreatDoor
open Go.RowKit Go.Maps
set_option linter.unusedVariables false

end Go.Proofs.YtikpojnmaiplnaaGreatDoor
/- The document's reader takes up a fact. -/
namespace Go.Proofs.YtikpojnmaiplnaaGreatDoor
open Go.RowKit Go.Maps
set_option linter.unusedVariables false

/-- append, as one step of a region that draws, by its run. -/
theorem step_add {ops : Array Oper} {o : Oper} {a : Act} {w w' : World} {v' : Value} {K : Act → World → Prop} {Q : Exit → Act → World → Prop} {E : Prop}
    (hg : o.guard = none) (sl x : Operand) (t1 t2 : TypeId) (hop : o.op = Op.call { callee := Callee.builtin Builtin.append, args := #[sl, x], argTypes := #[t1, t2] })
    (v vx : Value) (hs : a.eval sl = v) (hx : a.eval x = vx) (hr : (Builtin.append_ #[t1, t2] o.type #[v, vx]).run Tryz.prog w = .ok v' w') (hK : K (a.put o.dst v') w') :
    if Region.wanted o (yielded ops a.tmps) = true then Oper.wp Tryz.prog o a w K Q else E := by
  have hw : Region.wanted o (yielded ops a.tmps) = true := by simp [Region.wanted, hg]
  rw [if_pos hw]
  unfold Oper.wp
  simp [execOp, hop, resolve, invoke, builtin, hs, hx, hr, Result.andThen]
  exact hK
/-- A call of the document's reader that tells a fact. -/
def DPf (g : Nat) (w : World) (f : FactP) (S' : RS) (e : Ending) (w' : World) : Prop :=
  ∃ dv mv, e = .returned (.agg #[dv, mv]) ∧ KDAt w' g S' ∧ Fr (DFt g) w w' ∧ RowE (fun k => w.heap.size ≤ k) w' 1 strE dv f.dims ∧ RowE (fun k => w.heap.size ≤ k) w' 1 intE mv f.meas
/-- The reader's block, or the fact's. -/
def FB (g fb k : Nat) : Prop := k = g ∨ k = fb

set_option maxRecDepth 100000 in
set_option maxHeartbeats 4000000 in
theorem dfact_r (g : Nat) (S : RS) (w : World) (h : KDAt w g S) : Calls Tryz.prog 102 #[dpt g] w (DPf g w S.fact.1 S.fact.2) := by
  obtain ⟨w0, hw0⟩ : ∃ w0, w.alloc (.cells #[.slice none 0 0, .slice none 0 0] 139) = w0 := ⟨_, rfl⟩
  obtain ⟨gr, hgr⟩ : ∃ gr, w.heap.size = gr := ⟨_, rfl⟩
  have h0 : KDAt w0 g S := by rw [← hw0]; exact h.keep ((Fr.refl _ w).alloc _)
  have hb0 : Blk w0 gr 139 #[.slice none 0 0, .slice none 0 0] := by rw [← hw0, ← hgr]; exact Blk.new w 139 _
  have hf0 : Fr (DFt g) w w0 := by rw [← hw0]; exact (Fr.refl _ w).alloc _
  have hlt := h.lt
  have hggr : g < gr := by omega
  have H0 := Lib.hid h0
  have X0 := Lib.hid hb0
  have F0 := Lib.hid hf0
  have GR := Lib.hid hgr
  have HT := Lib.hid (dtexts_r g S w0 h0)
  have HVf : Hid (S.fact = (if S.texts.2.ints.2.fault = 0 then ⟨S.texts.1, S.texts.2.ints.1⟩ else FactP.zero, S.texts.2.ints.2)) := Lib.hid rfl

  have HTX : Hid (S.several RS.text 4 = S.texts) := Lib.hid rfl
  clear h h0 hb0 hf0
  unfold dpt at HT ⊢
  go_enter Tryz.func102, Tryz.ntmps102
  go_wp2_with fail

  refine HT.out.mono ?_
  rw [HTX.out]
  rintro e w1 ⟨dv, rfl, h1, f1, r1⟩
  clear HT
  have hx1 : Blk w1 gr 139 #[.slice none 0 0, .slice none 0 0] := X0.out.of (f1.block gr X0.out.lt fun e => by unfold DFt at e; omega)
  obtain ⟨A1, n1, c1, rfl⟩ := r1.slice
  have hs0 := X0.out.lt
  have hr1 := (r1.bound (by omega)).mono (K' := fun k => gr < k ∧ k < w1.heap.size) fun k hk => ⟨by have := hk.1; omega, hk.2⟩
  obtain ⟨w2, hw2⟩ : ∃ w2, w1.alloc (.cells #[.slice A1 n1 c1, .slice none 0 0] 139) = w2 := ⟨_, rfl⟩
  obtain ⟨fb, hfb⟩ : ∃ fb, w1.heap.size = fb := ⟨_, rfl⟩
  have h2 : KDAt w2 g S.texts.2 := by rw [← hw2]; exact h1.keep ((Fr.refl _ w1).alloc _)
  have hb2 : Blk w2 fb 139 #[.slice A1 n1 c1, .slice none 0 0] := by rw [← hw2, ← hfb]; exact Blk.new w1 139 _
  have hf2 : Fr (DFt g) w w2 := by rw [← hw2]; exact (F0.out.thenD f1).alloc _
  have hfa : Fr No w1 w2 := by rw [← hw2]; exact (Fr.refl _ w1).alloc _
  have hx2 : Blk w2 gr 139 #[.slice none 0 0, .slice none 0 0] := hx1.of (hfa.block gr hx1.lt id)
  have hr2 : RowE (fun k => gr < k ∧ k < fb) w2 1 strE (.slice A1 n1 c1) S.texts.1 := by rw [← hfb]; exact hr1.of (fun k hk => hfa.block k hk.2 id) fun _ _ h => h
  obtain ⟨b, hb⟩ : ∃ b, w2.heap.size = b := ⟨_, rfl⟩
  have hgfb : gr < fb := by have := hx1.lt; omega
  have hfbb : fb < b := by have := hb2.lt; omega
  have hml := many_le S.texts.2 8
  have hsl := h2.len
  have HM := Lib.hid (dmany_any g S.texts.2 8 (by omega) (by omega) w2 h2)
  have HV : Hid (S.texts.2.ints = (if (seq RS.int (S.texts.2.many 8).1 (S.texts.2.many 8).2).2.fault = 0 then (seq RS.int (S.texts.2.many 8).1 (S.texts.2.many 8).2).1 else [], (seq RS.int (S.texts.2.many 8).1 (S.texts.2.many 8).2).2)) := Lib.hid rfl
  have hn : (S.texts.2.many 8).1 ≤ 1073741824 := by omega
  have X2 := Lib.hid hx2
  have R2 := Lib.hid hr2
  have B2 := Lib.hid hb2
  have F2 := Lib.hid hf2
  have W2 := Lib.hid hw2
  have SB := Lib.hid hb
  have SF := Lib.hid hfb
  generalize (S.texts.2.many 8).1 = n at *
  generalize (S.texts.2.many 8).2 = S1 at *
  clear h1 f1 r1 hx1 hr1 h2 hb2 hf2 hfa hx2 hr2 hml hsl hb hfb hw2 hgr hw0 hlt H0 X0 F0
  unfold dpt at HM
  go_wp2_with fail
  rw [W2.out, SF.out]
  refine HM.out.mono ?_
  rintro e w3 ⟨rfl, h3, f3⟩
  have hb3 : Blk w3 fb 139 #[.slice A1 n1 c1, .slice none 0 0] := B2.out.of (f3.block fb B2.out.lt fun e => by unfold DFt at e; omega)
  have B3 := Lib.hid hb3
  have H3 := Lib.hid h3
  have F3 : Hid (Fr (FB g fb) w2 w3) := Lib.hid (f3.mono fun k _ hk => .inl hk.symm)
  clear h3 f3 HM hb3
  go_wp2
  go_loopw [5] (fun i wr => ∃ j : Nat, ∃ A c, j ≤ n ∧ i = .int .i64 j ∧ Blk wr fb 139 #[.slice A1 n1 c1, .slice A j c] ∧ Grow b 2 1 intG wr (.slice A j c) (seq RS.int j S1).1 ∧ KDAt wr g (seq RS.int j S1).2 ∧ Fr (FB g fb) w2 wr) (fun i _ => n - (intOf i).toNat)
  case atStart => exact ⟨0, _, _, by omega, rfl, B3.out, Grow.nil0 _ _ _ _ _, H3.out, F3.out⟩
  case round =>
    obtain ⟨j, A, c, hj, rfl, hbk, hg, hr, hf⟩ := hrel
    have HB := Lib.hid hbk
    have HG := Lib.hid hg
    have HR0 := Lib.hid hr
    have HF := Lib.hid hf
    have HQ : Hid (seq RS.int (j + 1) S1 = ((seq RS.int j S1).1 ++ [(RS.int (seq RS.int j S1).2).1], (RS.int (seq RS.int j S1).2).2)) := Lib.hid rfl
    have HL := Lib.hid (seq_len RS.int S1 j)
    clear hbk hg hr hf
    by_cases hlt : j < n
    · have x1 : wr.cell? ⟨fb, 1, none⟩ = some (.slice A j c) := HB.out.cell 1
      have HC : Hid (Calls Tryz.prog 48 #[dpt g] wr.drew fun e w4 => e = .returned (.int .i64 (RS.int (seq RS.int j S1).2).1) ∧ ∃ A' c' w5, w4.cell? ⟨fb, 1, none⟩ = some (.slice A j c) ∧ (w4.alloc (.cells #[.int .i64 (RS.int (seq RS.int j S1).2).1] 2)).cell? ⟨fb, 1, none⟩ = some (.slice A j c) ∧ w5.cell? ⟨fb, 1, none⟩ = some (.slice A j c) ∧ w5.frozen? ⟨fb, 1, none⟩ = false ∧
          (∀ ty, (Builtin.append_ #[137, 137] ty #[.slice A j c, .slice (some ⟨w4.heap.size, 0, none⟩) 1 1]).run Tryz.prog (w4.alloc (.cells #[.int .i64 (RS.int (seq RS.int j S1).2).1] 2)) = .ok (.slice A' (j + 1) c') w5) ∧
          Blk w5 fb 139 #[.slice A1 n1 c1, .slice A j c] ∧ Grow b 2 1 intG w5 (.slice A' (j + 1) c') (seq RS.int (j + 1) S1).1 ∧ KDAt w5 g (seq RS.int (j + 1) S1).2 ∧ Fr (FB g fb) w2 w5) := by
        refine Lib.hid ((dint_any g (seq RS.int j S1).2 wr.drew (HR0.out.keep ((Fr.refl _ _).drew))).mono ?_)
        rintro e w4 ⟨rfl, h4, f4⟩
        refine ⟨rfl, ?_⟩
        have hg4 := HG.out.keep intG_elem (((Fr.refl (DFt g) wr).drew).trans f4 fun _ _ h => h) (fun k hk => by unfold DFt at hk; omega)
        have hb4 : Blk w4 fb 139 #[.slice A1 n1 c1, .slice A j c] := HB.out.of (f4.block fb HB.out.lt fun e => by unfold DFt at e; omega)
        have hel : intG (fun x => wr.heap.size ≤ x) w4 (RS.int (seq RS.int j S1).2).1 [.int .i64 (RS.int (seq RS.int j S1).2).1] := ⟨rfl, int_bd _⟩
        have hbw : b ≤ wr.heap.size := by have := HF.out.size; rw [SB.out] at this; exact this
        obtain ⟨A', c', w5, hap, hg5, f5, hlt5⟩ := hg4.more intG_elem (w0 := wr) hbw f4.size (fun x hx => (HG.out.lt x hx).2) 137 Tryz.underlying137 (.int .i64 0) info2 rfl (by omega) _ [.int .i64 (RS.int (seq RS.int j S1).2).1] rfl (by simp [Value.oneCell']) hel (by rw [HL.out]; omega) (by rw [HL.out]; unfold maxLen; omega)
        rw [HL.out] at hap hg5
        have hb5 : Blk w5 fb 139 #[.slice A1 n1 c1, .slice A j c] := hb4.of (f5.block fb hb4.lt fun hx => by have := (HG.out.lt fb hx).1; omega)
        refine ⟨A', c', w5, hb4.cell 1, (hb4.of (((Fr.refl No w4).alloc _).block fb hb4.lt id)).cell 1, hb5.cell 1, hb5.frozen 1, hap, hb5, by rw [HQ.out]; exact hg5, by rw [HQ.out]; exact h4.of (f5.block g h4.lt fun hx => by have := (HG.out.lt g hx).1; omega), ?_⟩
        exact (HF.out.trans ((((Fr.refl (FB g fb) wr).drew).trans f4 fun k _ hk => .inl (by unfold DFt at hk; exact hk.symm))) fun _ _ h => h).trans f5 fun x hlx hx => by have := (HG.out.lt x hx).1; have := SB.out; omega
      unfold dpt at HC
      generalize (RS.int (seq RS.int j S1).2).1 = xv at *
      go_upto_region 6 with fail
      go_region_law (first
        | (refine step_add rfl _ _ _ _ rfl _ _ rfl rfl (HAP.out _) ?_)
        | (go_simp; go_at_call 48; refine HC.out.mono ?_; rintro e w4 ⟨rfl, A', c', w5, x4, x5, y1, z1, hap, hB, hG, hR, hF⟩; have HAP := Lib.hid hap; have HB5 := Lib.hid hB; have HG5 := Lib.hid hG; have HR5 := Lib.hid hR; have HF5 := Lib.hid hF; clear hap hB hG hR hF))
      all_goals
        go_wp2
        go_roundw
        case rel => exact ⟨j + 1, A', c', by omega, by go_num, HB5.out.set_ 1 _, HG5.out.keep intG_elem (Fr.set0 fb _ 1 _) (fun k hk => by have : k = fb := hk; omega), HR5.out.of (Below.heap_setCell _ _ _ _ (by show g ≠ fb; omega)), (HF5.out.setCell (p := ⟨fb, 1, none⟩) (fun _ => .inr rfl) _)⟩
        case measure => simp [intOf]; omega
    · obtain rfl : j = n := by omega
      have hbx : Blk wr gr 139 #[.slice none 0 0, .slice none 0 0] := X2.out.of (HF.out.block gr X2.out.lt fun hk => by unfold FB at hk; omega)
      have e1 : wr.cell? ⟨g, 1, none⟩ = some (.int .i64 (seq RS.int j S1).2.fault) := HR0.out.blk.cell 1
      have x0 : wr.cell? ⟨fb, 0, none⟩ = some (.slice A1 n1 c1) := HB.out.cell 0
      have x1 : wr.cell? ⟨fb, 1, none⟩ = some (.slice A j c) := HB.out.cell 1
      have z0 : wr.cell? ⟨gr, 0, none⟩ = some (.slice none 0 0) := hbx.cell 0
      have z1 : wr.cell? ⟨gr, 1, none⟩ = some (.slice none 0 0) := hbx.cell 1
      have y0 := hbx.frozen 0
      have y1 := hbx.frozen 1
      have hrd : RowE (fun k => gr < k ∧ k < fb) wr 1 strE (.slice A1 n1 c1) S.texts.1 := R2.out.of (fun k hk => HF.out.block k (by rw [SB.out]; omega) fun e => by unfold FB at e; omega) fun _ _ h => h
      have hfin : ∀ u0 u1, KDAt ((wr.setCell ⟨gr, 0, none⟩ u0).setCell ⟨gr, 1, none⟩ u1) g (seq RS.int j S1).2 ∧ Fr (DFt g) w ((wr.setCell ⟨gr, 0, none⟩ u0).setCell ⟨gr, 1, none⟩ u1) ∧
          (∀ k, gr < k → ((wr.setCell ⟨gr, 0, none⟩ u0).setCell ⟨gr, 1, none⟩ u1).heap[k]? = wr.heap[k]?) := by
        intro u0 u1
        have hset : ∀ k, k ≠ gr → ((wr.setCell ⟨gr, 0, none⟩ u0).setCell ⟨gr, 1, none⟩ u1).heap[k]? = wr.heap[k]? := fun k hk => by
          rw [Below.heap_setCell _ _ _ k hk, Below.heap_setCell _ _ _ k hk]
        refine ⟨HR0.out.of (hset g (by omega)), ?_, fun k hk => hset k (by omega)⟩
        have hnew : ¬ gr < w.heap.size := by rw [GR.out]; omega
        have hw : Fr (DFt g) w wr := F2.out.trans HF.out fun k hk hk' => by
          rcases hk' with e | e
          · exact e.symm
          · have := GR.out; omega
        exact (hw.setCell (p := ⟨gr, 0, none⟩) (fun h => absurd h hnew) _).setCell (p := ⟨gr, 1, none⟩) (fun h => absurd h hnew) _
      have HFIN := Lib.hid hfin
      have HRD := Lib.hid hrd
      have hkw : ∀ k, gr < k → w.heap.size ≤ k := fun k hk => by have := GR.out; omega
      have HKW := Lib.hid hkw
      clear hbx hrd hfin hkw
      by_cases hz : (seq RS.int j S1).2.fault = 0
      · rw [hz] at e1
        have hrm := HG.out.row intG_elem (by rw [HL.out]; unfold maxLen; omega)
        have HRM := Lib.hid hrm
        have HE : Hid (S.fact = (⟨S.texts.1, (seq RS.int j S1).1⟩, (seq RS.int j S1).2)) := Lib.hid (by rw [HVf.out, HV.out, if_pos hz, if_pos hz])
        clear hz hrm
        go_wp2
        refine bodyPost_ret (v := .agg #[.slice A1 n1 c1, .slice A j c]) (by simp [results, Tryz.results102, go_sem, z0, z1]) rfl ?_
        obtain ⟨q1, q2, q3⟩ := HFIN.out (.slice A1 n1 c1) (.slice A j c)
        exact ⟨_, _, rfl, by rw [HE.out]; exact q1, q2, by rw [HE.out]; exact (HRD.out.of (fun k hk => q3 k hk.1) fun _ _ h => h).mono fun k hk => HKW.out k hk.1,
          by rw [HE.out]; exact (HRM.out.of (fun k hk => q3 k (by omega)) fun _ _ h => h).mono fun k hk => HKW.out k (by omega)⟩
      · have hd : ((seq RS.int j S1).2.fault != 0) = true := by simpa using hz
        have HE : Hid (S.fact = (FactP.zero, (seq RS.int j S1).2)) := Lib.hid (by rw [HVf.out, HV.out, if_neg (by exact hz)])
        clear hz
        go_wp2
        refine bodyPost_ret (v := .agg #[.slice none 0 0, .slice none 0 0]) (by simp [results, Tryz.results102, go_sem, z0, z1]) rfl ?_
        obtain ⟨q1, q2, q3⟩ := HFIN.out (.slice none 0 0) (.slice none 0 0)
        exact ⟨_, _, rfl, by rw [HE.out]; exact q1, q2, by rw [HE.out]; exact RowE.nil _ _ _ _ _, by rw [HE.out]; exact RowE.nil _ _ _ _ _⟩
end Go.Proofs.YtikpojnmaiplnaaGreatDoor
/- What a checkpoint has beside its batches is taken up. -/
namespace Go.Proofs.YtikpojnmaiplnaaGreatDoor
open Go.RowKit Go.Maps
set_option linter.unusedVariables false

def RS.head (S : RS) : CkP × RS :=
  (⟨S.int.1, S.int.2.schema.1.1, S.int.2.schema.1.2, (seq RS.int (S.int.2.schema.2.count S.int.2.schema.2.rest.length).1 (S.int.2.schema.2.count S.int.2.schema.2.rest.length).2).1, []⟩,
    (seq RS.int (S.int.2.schema.2.count S.int.2.schema.2.rest.length).1 (S.int.2.schema.2.count S.int.2.schema.2.rest.length).2).2)
theorem info3 : (Tryz.prog.info? 3).map (fun i => (i.zero, i.size, i.bytes)) = some (some (.int .i64 0), 1, 8) := by kernel_rfl
theorem count_le (S : RS) (n : Nat) : (S.count n).1 ≤ n := by
  unfold RS.count
  split
  · exact Nat.zero_le _
  · split
    · simp only; omega
    · exact Nat.zero_le _
/-- A call that tells a checkpoint without batches. -/
def RPh (g : Nat) (w : World) (c : CkP) (S' : RS) (e : Ending) (w' : World) : Prop :=
  ∃ dv mv vv, e = .returned (ckv c dv mv vv (.slice none 0 0)) ∧ RAt w' (some g) S' ∧ Fr (RFt (some g)) w w' ∧ CkAt (fun k => w.heap.size ≤ k) w' c dv mv vv (.slice none 0 0)
def zero5 : Array Value := #[.int .i64 0, .slice none 0 0, .slice none 0 0, .slice none 0 0, .slice none 0 0]
set_option maxRecDepth 100000 in
set_option maxHeartbeats 4000000 in
theorem unHead_any (g : Nat) (S : RS) (w : World) (h : RAt w (some g) S) : Calls Tryz.prog 43 #[wpt (some g)] w (RPh g w S.head.1 S.head.2) := by
  obtain ⟨gr, hgr⟩ : ∃ gr, w.heap.size = gr := ⟨_, rfl⟩
  obtain ⟨wa, hwa⟩ : ∃ wa, w.alloc (.cells #[.int .i64 0, .slice none 0 0, .slice none 0 0, .slice none 0 0, .slice none 0 0] 28) = wa := ⟨_, rfl⟩
  have hsa : wa.heap.size = gr + 1 := by rw [← hwa, ← hgr]; simp
  obtain ⟨wb, hwb⟩ : ∃ wb, wa.alloc (.cells #[.int .i64 0, .slice none 0 0, .slice none 0 0, .slice none 0 0, .slice none 0 0] 28) = wb := ⟨_, rfl⟩
  have hsb : wb.heap.size = gr + 2 := by rw [← hwb]; simp [hsa]
  have hggr : g < gr := by have := h.lt g rfl; omega
  have hbr0 : Blk wa gr 28 zero5 := by rw [← hwa, ← hgr]; exact Blk.new w 28 _
  have hbf0 : Blk wb (gr + 1) 28 zero5 := by rw [← hwb, ← hsa]; exact Blk.new wa 28 _
  have hbr : Blk wb gr 28 zero5 := hbr0.of (by rw [← hwb]; exact ((Fr.refl No wa).alloc _).block gr hbr0.lt id)
  have hf0 : Fr (RFt (some g)) w wb := by rw [← hwb, ← hwa]; exact ((Fr.refl _ w).alloc _).alloc _
  have h0 : RAt wb (some g) S := by rw [← hwb, ← hwa]; exact (h.alloc _).alloc _
  have C1 := rint_any (some g) S wb h0
  have HC1 := Lib.hid C1
  have HH : Hid (S.head = (⟨S.int.1, S.int.2.schema.1.1, S.int.2.schema.1.2, (seq RS.int (S.int.2.schema.2.count S.int.2.schema.2.rest.length).1 (S.int.2.schema.2.count S.int.2.schema.2.rest.length).2).1, []⟩, (seq RS.int (S.int.2.schema.2.count S.int.2.schema.2.rest.length).1 (S.int.2.schema.2.count S.int.2.schema.2.rest.length).2).2)) := Lib.hid rfl
  have HI64 := Lib.hid (int_bd S)
  have HBR := Lib.hid hbr
  have HBF := Lib.hid hbf0
  have HF0 := Lib.hid hf0
  have HGR := Lib.hid hgr
  have HSA := Lib.hid hsa
  have HSB := Lib.hid hsb
  have HWA := Lib.hid hwa
  have HWB := Lib.hid hwb
  have HGG := Lib.hid hggr
  clear C1 h0 hf0 hbr hbf0 hbr0 hsb hsa hwb hwa h hgr hggr
  rw [wpt_some] at HC1 ⊢
  go_enter Tryz.func43, Tryz.ntmps43
  go_wp2_with fail
  rw [HWA.out, HWB.out, HGR.out]
  refine HC1.out.mono ?_
  clear HC1
  rintro e w2 ⟨rfl, h2, f2⟩
  have hne : ∀ k, RFt (some g) k → k < gr := fun k e => by have e' : g = k := Option.some.inj e; have := HGG.out; omega
  have HNE := Lib.hid hne
  have hbf2 : Blk w2 (gr + 1) 28 zero5 := HBF.out.of (f2.block _ HBF.out.lt fun e => by have := hne _ e; omega)
  have hbr2 : Blk w2 gr 28 zero5 := HBR.out.of (f2.block _ HBR.out.lt fun e => by have := hne _ e; omega)
  have x0 : w2.cell? ⟨gr + 1, 0, none⟩ = some (.int .i64 0) := hbf2.cell 0
  have z0 := hbf2.frozen 0
  obtain ⟨sq, hsq⟩ : ∃ sq, S.int.1 = sq := ⟨_, rfl⟩
  obtain ⟨S2, hS2⟩ : ∃ S2, S.int.2 = S2 := ⟨_, rfl⟩
  rw [hsq, hS2] at HH
  rw [hS2] at h2
  rw [hsq] at HI64 ⊢
  obtain ⟨w3, hw3⟩ : ∃ w3, w2.setCell ⟨gr + 1, 0, none⟩ (.int .i64 sq) = w3 := ⟨_, rfl⟩
  have hf3 : Fr (One (gr + 1)) w2 w3 := by rw [← hw3]; exact Fr.set0 _ _ _ _
  have hbf3 : Blk w3 (gr + 1) 28 #[.int .i64 sq, .slice none 0 0, .slice none 0 0, .slice none 0 0, .slice none 0 0] := by rw [← hw3]; exact hbf2.set_ 0 _
  have hbr3 : Blk w3 gr 28 zero5 := hbr2.of (hf3.block _ hbr2.lt fun e => by unfold One at e; omega)
  have h3 : RAt w3 (some g) S2 := h2.of fun k hk => hf3.block k (h2.lt k hk) fun e => by have := hne k hk; unfold One at e; omega
  have HF2 := Lib.hid (HF0.out.then f2)
  have C2 := rschema_any (some g) S2 w3 h3
  rw [wpt_some] at C2
  have HC2 := Lib.hid C2
  have HBF3 := Lib.hid hbf3
  have HBR3 := Lib.hid hbr3
  have HF3 := Lib.hid hf3
  have HW3 := Lib.hid hw3
  have HS23 : Hid (w2.heap.size = w3.heap.size ∧ gr + 2 ≤ w2.heap.size) := Lib.hid ⟨by rw [← hw3]; simp, by have := f2.size; have := HSB.out; omega⟩
  clear hsq hS2 h2 f2 hbf2 hbr2 hw3 hf3 hbf3 hbr3 h3 C2 hne
  go_wp2_with fail
  rw [HW3.out]
  refine HC2.out.mono ?_
  clear HC2 x0 z0
  rintro e w4 ⟨dv, mv, rfl, h4, f4, r1, r2⟩
  obtain ⟨A1, n1, c1, rfl⟩ := r1.slice
  obtain ⟨A2, n2, c2, rfl⟩ := r2.slice
  have hne := HNE.out
  have hbf4 := HBF3.out.of (f4.block _ HBF3.out.lt fun e => by have := hne _ e; omega)
  have hbr4 := HBR3.out.of (f4.block _ HBR3.out.lt fun e => by have := hne _ e; omega)
  have y1 : w4.cell? ⟨gr + 1, 1, none⟩ = some (.slice none 0 0) := hbf4.cell 1
  have y2 : w4.cell? ⟨gr + 1, 2, none⟩ = some (.slice none 0 0) := hbf4.cell 2
  have z1 := hbf4.frozen 1
  have z2 := hbf4.frozen 2
  obtain ⟨w5, hw5⟩ : ∃ w5, (w4.setCell ⟨gr + 1, 1, none⟩ (.slice A1 n1 c1)).setCell ⟨gr + 1, 2, none⟩ (.slice A2 n2 c2) = w5 := ⟨_, rfl⟩
  have hf5 : Fr (One (gr + 1)) w4 w5 := by rw [← hw5]; exact (Fr.set0 _ _ _ _).set1 _ _
  have hbf5 : Blk w5 (gr + 1) 28 #[.int .i64 sq, .slice A1 n1 c1, .slice A2 n2 c2, .slice none 0 0, .slice none 0 0] := by rw [← hw5]; exact (hbf4.set_ 1 _).set_ 2 _
  have hbr5 := hbr4.of (hf5.block _ hbr4.lt fun e => by unfold One at e; omega)
  have h5 : RAt w5 (some g) S2.schema.2 := h4.of fun k hk => hf5.block k (h4.lt k hk) fun e => by have := hne k hk; unfold One at e; omega
  obtain ⟨b, hb⟩ : ∃ b, w5.heap.size = b := ⟨_, rfl⟩
  have hgw := HS23.out
  have hb4 : w4.heap.size = b := by rw [← hb, ← hw5]; simp
  have hgb : gr + 2 ≤ b := by have := f4.size; omega
  have q1 : RowE (fun k => gr + 1 < k ∧ k < b) w5 1 strE (.slice A1 n1 c1) S2.schema.1.1 := ((r1.bound (by omega)).mono fun k hk => ⟨by have := hk.1; omega, by have := hk.2; omega⟩).of (fun k hk => hf5.block k (by omega) fun e => by unfold One at e; omega) fun _ _ h => h
  have q2 : RowE (fun k => gr + 1 < k ∧ k < b) w5 1 strE (.slice A2 n2 c2) S2.schema.1.2 := ((r2.bound (by omega)).mono fun k hk => ⟨by have := hk.1; omega, by have := hk.2; omega⟩).of (fun k hk => hf5.block k (by omega) fun e => by unfold One at e; omega) fun _ _ h => h
  have hfw5 : Fr (RFt (some g)) w w5 := ((HF2.out.trans HF3.out fun j hj e => by unfold One at e; have := HGR.out; omega).then f4).trans hf5 fun j hj e => by unfold One at e; have := HGR.out; omega
  have hsl := h5.len
  obtain ⟨S3, hS3⟩ : ∃ S3, S2.schema.2 = S3 := ⟨_, rfl⟩
  obtain ⟨D, hD⟩ : ∃ D, S2.schema.1.1 = D := ⟨_, rfl⟩
  obtain ⟨M, hM⟩ : ∃ M, S2.schema.1.2 = M := ⟨_, rfl⟩
  rw [hS3, hD, hM] at HH
  rw [hS3] at h5 hsl
  rw [hD] at q1
  rw [hM] at q2
  have CL := rleft_any (some g) S3 w5 h5
  have CC := rcount_any (some g) S3 (S3.rest.length : Nat) w5 h5
  have hnle := count_le S3 S3.rest.length
  have hn : (S3.count S3.rest.length).1 ≤ 1073741824 := by omega
  rw [wpt_some] at CL CC
  obtain ⟨L, hL⟩ : ∃ L, S3.rest.length = L := ⟨_, rfl⟩
  rw [hL] at CL CC hn HH
  have HCL := Lib.hid CL
  have HCC := Lib.hid CC
  have HBF5 := Lib.hid hbf5
  have HBR5 := Lib.hid hbr5
  have HQ1 := Lib.hid q1
  have HQ2 := Lib.hid q2
  have HFW5 := Lib.hid hfw5
  have HW5 := Lib.hid hw5
  have HB := Lib.hid hb
  have HGB := Lib.hid hgb
  generalize (S3.count (L : Nat)).1 = n at *
  generalize (S3.count (L : Nat)).2 = S4 at *
  clear hS3 hD hM h5 hsl CL CC hnle hL hbf5 hbr5 q1 q2 hfw5 hw5 hb hgb hgw hb4 hf5 hbf4 hbr4 h4 f4 r1 r2 hne HF2 HF3 HBF3 HBR3 HS23
  go_wp2_with fail
  rw [HW5.out]
  refine HCL.out.mono ?_
  rintro e w' ⟨rfl, rfl⟩
  clear y1 y2 z1 z2 HCL
  go_wp2_with fail
  refine HCC.out.mono ?_
  rintro e w6 ⟨rfl, h6, f6⟩
  have hne := HNE.out
  have hbf6 := HBF5.out.of (f6.block _ HBF5.out.lt fun e => by have := hne _ e; omega)
  have H6 := Lib.hid h6
  have HBF6 := Lib.hid hbf6
  have HF6 : Hid (Fr (FB g (gr + 1)) w5 w6) := Lib.hid (f6.mono fun k _ hk => .inl (Option.some.inj hk).symm)
  clear h6 f6 hne hbf6 HCC
  go_wp2
  go_loopw [14] (fun i wr => ∃ j : Nat, ∃ A c, j ≤ n ∧ i = .int .i64 j ∧ Blk wr (gr + 1) 28 #[.int .i64 sq, .slice A1 n1 c1, .slice A2 n2 c2, .slice A j c, .slice none 0 0] ∧ Grow b 3 1 intG wr (.slice A j c) (seq RS.int j S4).1 ∧ RAt wr (some g) (seq RS.int j S4).2 ∧ Fr (FB g (gr + 1)) w5 wr) (fun i _ => n - (intOf i).toNat)
  case atStart => exact ⟨0, _, _, by omega, rfl, HBF6.out, Grow.nil0 _ _ _ _ _, H6.out, HF6.out⟩
  case round =>
    obtain ⟨j, A, c, hj, rfl, hbk, hg, hr, hf⟩ := hrel
    have HBK := Lib.hid hbk
    have HG := Lib.hid hg
    have HR0 := Lib.hid hr
    have HF := Lib.hid hf
    have HQ : Hid (seq RS.int (j + 1) S4 = ((seq RS.int j S4).1 ++ [(RS.int (seq RS.int j S4).2).1], (RS.int (seq RS.int j S4).2).2)) := Lib.hid rfl
    have HL := Lib.hid (seq_len RS.int S4 j)
    clear hbk hg hr hf
    by_cases hlt : j < n
    · have x3 : wr.cell? ⟨gr + 1, 3, none⟩ = some (.slice A j c) := HBK.out.cell 3
      have HC : Hid (Calls Tryz.prog 89 #[.pointer (some ⟨g, 0, none⟩)] wr.drew fun e w4 => e = .returned (.int .i64 (RS.int (seq RS.int j S4).2).1) ∧ ∃ A' c' w5', w4.cell? ⟨gr + 1, 3, none⟩ = some (.slice A j c) ∧ (w4.alloc (.cells #[.int .i64 (RS.int (seq RS.int j S4).2).1] 3)).cell? ⟨gr + 1, 3, none⟩ = some (.slice A j c) ∧ w5'.cell? ⟨gr + 1, 3, none⟩ = some (.slice A j c) ∧ w5'.frozen? ⟨gr + 1, 3, none⟩ = false ∧
          (∀ ty, (Builtin.append_ #[25, 25] ty #[.slice A j c, .slice (some ⟨w4.heap.size, 0, none⟩) 1 1]).run Tryz.prog (w4.alloc (.cells #[.int .i64 (RS.int (seq RS.int j S4).2).1] 3)) = .ok (.slice A' (j + 1) c') w5') ∧
          Blk w5' (gr + 1) 28 #[.int .i64 sq, .slice A1 n1 c1, .slice A2 n2 c2, .slice A j c, .slice none 0 0] ∧ Grow b 3 1 intG w5' (.slice A' (j + 1) c') (seq RS.int (j + 1) S4).1 ∧ RAt w5' (some g) (seq RS.int (j + 1) S4).2 ∧ Fr (FB g (gr + 1)) w5 w5') := by
        have hgb := HGB.out
        have hne := HNE.out
        refine Lib.hid ((rint_any (some g) (seq RS.int j S4).2 wr.drew (HR0.out.keep ((Fr.refl _ _).drew))).mono ?_)
        rintro e w4 ⟨rfl, h4, f4⟩
        refine ⟨rfl, ?_⟩
        have hg4 := HG.out.keep intG_elem (((Fr.refl (RFt (some g)) wr).drew).trans f4 fun _ _ h => h) (fun k hk => by have := hne k hk; omega)
        have hb4 : Blk w4 (gr + 1) 28 #[.int .i64 sq, .slice A1 n1 c1, .slice A2 n2 c2, .slice A j c, .slice none 0 0] := HBK.out.of (f4.block _ HBK.out.lt fun e => by have := hne _ e; omega)
        have hel : intG (fun x => wr.heap.size ≤ x) w4 (RS.int (seq RS.int j S4).2).1 [.int .i64 (RS.int (seq RS.int j S4).2).1] := ⟨rfl, int_bd _⟩
        have hbw : b ≤ wr.heap.size := by have := HF.out.size; rw [HB.out] at this; exact this
        obtain ⟨A', c', w5', hap, hg5, f5, hlt5⟩ := hg4.more intG_elem (w0 := wr) hbw f4.size (fun x hx => (HG.out.lt x hx).2) 25 Tryz.underlying25 (.int .i64 0) info3 rfl (by omega) _ [.int .i64 (RS.int (seq RS.int j S4).2).1] rfl (by simp [Value.oneCell']) hel (by rw [HL.out]; omega) (by rw [HL.out]; unfold maxLen; omega)
        rw [HL.out] at hap hg5
        have hb5 : Blk w5' (gr + 1) 28 #[.int .i64 sq, .slice A1 n1 c1, .slice A2 n2 c2, .slice A j c, .slice none 0 0] := hb4.of (f5.block _ hb4.lt fun hx => by have := (HG.out.lt _ hx).1; omega)
        refine ⟨A', c', w5', hb4.cell 3, (hb4.of (((Fr.refl No w4).alloc _).block _ hb4.lt id)).cell 3, hb5.cell 3, hb5.frozen 3, hap, hb5, by rw [HQ.out]; exact hg5, by rw [HQ.out]; exact h4.of (fun k hk => f5.block k (h4.lt k hk) fun hx => by have := (HG.out.lt k hx).1; have := hne k hk; omega), ?_⟩
        exact (HF.out.trans ((((Fr.refl (FB g (gr + 1)) wr).drew).trans f4 fun k _ hk => .inl (Option.some.inj hk).symm)) fun _ _ h => h).trans f5 fun x hlx hx => by have := (HG.out.lt x hx).1; have := HB.out; omega
      generalize (RS.int (seq RS.int j S4).2).1 = xv at *
      go_upto_region 6 with fail
      go_region_law (first
        | (refine step_add rfl _ _ _ _ rfl _ _ rfl rfl (HAP.out _) ?_)
        | (go_simp; go_at_call 89; refine HC.out.mono ?_; rintro e w4 ⟨rfl, A', c', w5', x4, x5, y1, z1, hap, hB, hG, hR, hF⟩; have HAP := Lib.hid hap; have HB5 := Lib.hid hB; have HG5 := Lib.hid hG; have HR5 := Lib.hid hR; have HF5 := Lib.hid hF; clear hap hB hG hR hF))
      all_goals
        go_wp2
        go_roundw
        case rel => exact ⟨j + 1, A', c', by omega, by go_num, HB5.out.set_ 3 _, HG5.out.keep intG_elem (Fr.set0 (gr + 1) _ 3 _) (fun k hk => by have : k = gr + 1 := hk; have := HGB.out; omega), HR5.out.of (fun k hk => Below.heap_setCell _ _ _ _ (by have := HNE.out k hk; show k ≠ gr + 1; omega)), (HF5.out.setCell (p := ⟨gr + 1, 3, none⟩) (fun _ => .inr rfl) _)⟩
        case measure => simp [intOf]; omega
    · obtain rfl : j = n := by omega
      have hne := HNE.out
      have hgb := HGB.out
      have hbx : Blk wr gr 28 zero5 := HBR5.out.of (HF.out.block gr HBR5.out.lt fun hk => by have := HGG.out; unfold FB at hk; omega)
      have x0 : wr.cell? ⟨gr + 1, 0, none⟩ = some (.int .i64 sq) := HBK.out.cell 0
      have x1 : wr.cell? ⟨gr + 1, 1, none⟩ = some (.slice A1 n1 c1) := HBK.out.cell 1
      have x2 : wr.cell? ⟨gr + 1, 2, none⟩ = some (.slice A2 n2 c2) := HBK.out.cell 2
      have x3 : wr.cell? ⟨gr + 1, 3, none⟩ = some (.slice A j c) := HBK.out.cell 3
      have x4 : wr.cell? ⟨gr + 1, 4, none⟩ = some (.slice none 0 0) := HBK.out.cell 4
      have z0 : wr.cell? ⟨gr, 0, none⟩ = some (.int .i64 0) := hbx.cell 0
      have z1 : wr.cell? ⟨gr, 1, none⟩ = some (.slice none 0 0) := hbx.cell 1
      have z2 : wr.cell? ⟨gr, 2, none⟩ = some (.slice none 0 0) := hbx.cell 2
      have z3 : wr.cell? ⟨gr, 3, none⟩ = some (.slice none 0 0) := hbx.cell 3
      have z4 : wr.cell? ⟨gr, 4, none⟩ = some (.slice none 0 0) := hbx.cell 4
      have y0 := hbx.frozen 0
      have y1 := hbx.frozen 1
      have y2 := hbx.frozen 2
      have y3 := hbx.frozen 3
      have y4 := hbx.frozen 4
      have hgl := HGG.out
      have r1 : RowE (fun k => gr + 1 < k ∧ k < b) wr 1 strE (.slice A1 n1 c1) D := HQ1.out.of (fun k hk => HF.out.block k (by rw [HB.out]; omega) fun e => by unfold FB at e; omega) fun _ _ h => h
      have r2 : RowE (fun k => gr + 1 < k ∧ k < b) wr 1 strE (.slice A2 n2 c2) M := HQ2.out.of (fun k hk => HF.out.block k (by rw [HB.out]; omega) fun e => by unfold FB at e; omega) fun _ _ h => h
      have r3 := HG.out.row intG_elem (by rw [HL.out]; unfold maxLen; omega)
      have hw : Fr (RFt (some g)) w wr := HFW5.out.trans HF.out fun k hk hk' => by
        rcases hk' with e | e
        · exact congrArg some e.symm
        · have := HGR.out; omega
      have hfin : ∀ u0 u1 u2 u3 u4, RAt (((((wr.setCell ⟨gr, 0, none⟩ u0).setCell ⟨gr, 1, none⟩ u1).setCell ⟨gr, 2, none⟩ u2).setCell ⟨gr, 3, none⟩ u3).setCell ⟨gr, 4, none⟩ u4) (some g) (seq RS.int j S4).2 ∧ Fr (RFt (some g)) w (((((wr.setCell ⟨gr, 0, none⟩ u0).setCell ⟨gr, 1, none⟩ u1).setCell ⟨gr, 2, none⟩ u2).setCell ⟨gr, 3, none⟩ u3).setCell ⟨gr, 4, none⟩ u4) ∧
          CkAt (fun k => w.heap.size ≤ k) (((((wr.setCell ⟨gr, 0, none⟩ u0).setCell ⟨gr, 1, none⟩ u1).setCell ⟨gr, 2, none⟩ u2).setCell ⟨gr, 3, none⟩ u3).setCell ⟨gr, 4, none⟩ u4) ⟨sq, D, M, (seq RS.int j S4).1, []⟩ (.slice A1 n1 c1) (.slice A2 n2 c2) (.slice A j c) (.slice none 0 0) := by
        intro u0 u1 u2 u3 u4
        have hset : Fr (One gr) wr (((((wr.setCell ⟨gr, 0, none⟩ u0).setCell ⟨gr, 1, none⟩ u1).setCell ⟨gr, 2, none⟩ u2).setCell ⟨gr, 3, none⟩ u3).setCell ⟨gr, 4, none⟩ u4) := ((((Fr.set0 gr wr 0 u0).set1 1 u1).set1 2 u2).set1 3 u3).set1 4 u4
        have hk : ∀ k, gr < k → k < wr.heap.size → _ := fun k hk hk2 => hset.block k hk2 (fun e => by unfold One at e; omega)
        have hbw : b ≤ wr.heap.size := by have := HF.out.size; rw [HB.out] at this; exact this
        refine ⟨HR0.out.of fun k hk' => hset.block k (HR0.out.lt k hk') fun e => by have := hne k hk'; unfold One at e; omega, hw.trans hset fun k hk' e => by have := HGR.out; unfold One at e; omega, ?_⟩
        refine ⟨HI64.out, (r1.of (fun k hk' => hk k (by omega) (by omega)) fun _ _ h => h).mono fun k hk' => by have := HGR.out; omega, (r2.of (fun k hk' => hk k (by omega) (by omega)) fun _ _ h => h).mono fun k hk' => by have := HGR.out; omega, ?_, RowE.nil _ _ _ _ _⟩
        exact (((r3.bound (by omega)).of (fun k hk' => hk k (by omega) (by omega)) fun _ _ h => h).mono fun k hk' => by have := HGR.out; omega)
      have HFIN := Lib.hid hfin
      have HE : Hid (S.head = (⟨sq, D, M, (seq RS.int j S4).1, []⟩, (seq RS.int j S4).2)) := Lib.hid HH.out
      clear hbx r1 r2 r3 hw hfin hne hgb hgl
      go_wp2
      refine bodyPost_ret (v := ckv ⟨sq, D, M, (seq RS.int j S4).1, []⟩ (.slice A1 n1 c1) (.slice A2 n2 c2) (.slice A j c) (.slice none 0 0)) (by simp [results, Tryz.results43, go_sem, ckv, z0, z1, z2, z3, z4]) rfl ?_
      obtain ⟨q1, q2, q3⟩ := HFIN.out (.int .i64 sq) (.slice A1 n1 c1) (.slice A2 n2 c2) (.slice A j c) (.slice none 0 0)
      rw [HE.out]
      exact ⟨_, _, _, rfl, q1, q2, q3⟩
end Go.Proofs.YtikpojnmaiplnaaGreatDoor
/- A checkpoint's bytes are read. -/
namespace Go.Proofs.YtikpojnmaiplnaaGreatDoor
open Go.RowKit Go.Maps
set_option linter.unusedVariables false

/-- So many batches more, from what is left. -/
def readL (seq : Int) : Nat → RS → List UInt8 → List (List FactP) → Option (List (List FactP))
  | 0, R, T, bats => if R.done = 0 ∧ 0 ≤ seq ∧ T = [] then some bats else none
  | k + 1, R, T, bats => if R.done = 0 ∧ 0 ≤ seq then readL seq k (ufR T).facts.2 (ufT T) (bats ++ [(ufR T).facts.1]) else none
def readQ (c : CkP) : Option (List (List FactP)) → CkP × Int
  | some b => (⟨c.seq, c.dims, c.meas, c.views, b⟩, 0)
  | none => (CkP.zero, 27)
def readN (c : CkP) (S : RS) (T : List UInt8) : CkP × Int := readQ c (readL c.seq (S.count T.length).1 (S.count T.length).2 T [])
def readP (s : List UInt8) : CkP × Int := readN (ufR s).head.1 (ufR s).head.2 (ufT s)
abbrev batG (K : Nat → Prop) (w : World) (b : List FactP) (cs : List Value) : Prop := batE K w b cs
theorem batG_elem : Elem batG := ⟨fun K K' w w' x cs h hk => by
  obtain ⟨v, e, h1⟩ := h
  refine ⟨v, e, ?_⟩
  have h2 := h1.bound (by omega)
  exact (h2.of (w' := w') (fun k hk' => (hk k hk'.1 hk'.2).2) fun f cs hf => factG_elem.mono K K' w w' f cs hf hk).mono fun k hk' => (hk k hk'.1 hk'.2).1⟩
theorem info76 : (Tryz.prog.info? 76).map (fun i => (i.zero, i.size, i.bytes)) = some (some (.slice none 0 0), 1, 24) := by kernel_rfl
theorem ufT_len (l : List UInt8) : (ufT l).length ≤ l.length := by unfold ufT; simp
/-- A call that tells a checkpoint and an error. -/
def RdP (w : World) (c : CkP) (E : Int) (e : Ending) (w' : World) : Prop :=
  ∃ dv mv vv bv, e = .returned (.tuple #[ckv c dv mv vv bv, .int .i64 E]) ∧ Fr No w w' ∧ CkAt (fun k => w.heap.size ≤ k) w' c dv mv vv bv
set_option maxRecDepth 100000 in
set_option maxHeartbeats 400000 in
theorem read_ck_any (s : List UInt8) (w : World) (hs : s.length ≤ 1000000000) : Calls Tryz.prog 15 #[sv s] w (RdP w (readP s).1 (readP s).2) := by
  obtain ⟨gr, hgr⟩ : ∃ gr, w.heap.size = gr := ⟨_, rfl⟩
  obtain ⟨wa, hwa⟩ : ∃ wa, w.alloc (.cells #[.int .i64 0, .slice none 0 0, .slice none 0 0, .slice none 0 0, .slice none 0 0] 28) = wa := ⟨_, rfl⟩
  have hsa : wa.heap.size = gr + 1 := by rw [← hwa, ← hgr]; simp
  have hbr0 : Blk wa gr 28 zero5 := by rw [← hwa, ← hgr]; exact Blk.new w 28 _
  have hf0 : Fr No w wa := by rw [← hwa]; exact (Fr.refl _ w).alloc _
  have C1 := Lib.hid (unframed_any s wa (by unfold maxLen; omega))
  have HV : Hid (readP s = readN (ufR s).head.1 (ufR s).head.2 (ufT s)) := Lib.hid rfl
  have htl := ufT_len s
  obtain ⟨T0, hT0⟩ : ∃ T0, ufT s = T0 := ⟨_, rfl⟩
  obtain ⟨R0, hR0⟩ : ∃ R0, ufR s = R0 := ⟨_, rfl⟩
  rw [hT0, hR0] at HV C1
  rw [hT0] at htl
  have HBR := Lib.hid hbr0
  have HF0 := Lib.hid hf0
  have HSA := Lib.hid hsa
  have HWA := Lib.hid hwa
  have HGR := Lib.hid hgr
  clear hbr0 hf0 hsa hwa hgr hT0 hR0
  go_enter Tryz.func15, Tryz.ntmps15
  go_wp2_with fail
  rw [HWA.out]
  go_step3
  go_wp2_with fail
  refine C1.out.mono ?_
  clear C1
  rintro e w1 ⟨g, rfl, h1, f1, hg⟩
  have hgg : gr < g := by have := HSA.out; omega
  have hbr1 := HBR.out.of (f1.block _ HBR.out.lt id)
  have C2' := unHead_any g R0 w1 h1
  rw [wpt_some] at C2' ⊢
  have C2 := Lib.hid C2'
  have HF1 := Lib.hid (HF0.out.trans f1 fun _ _ h => h)
  have HBR1 := Lib.hid hbr1
  have HGG := Lib.hid hgg
  have HS1 : Hid (gr + 1 ≤ w1.heap.size ∧ g < w1.heap.size) := Lib.hid ⟨by have := f1.size; have := HSA.out; omega, h1.lt g rfl⟩
  clear h1 f1 hg hgg hbr1 HBR HF0 C2'
  go_wp2_with fail
  refine C2.out.mono ?_
  clear C2
  rintro e w2 ⟨dv, mv, vv, rfl, h2, f2, hck⟩
  obtain ⟨A1, n1, c1, A2, n2, c2, A3, n3, c3, _, _, _, rfl, rfl, rfl, _⟩ := hck.forms
  obtain ⟨gc, hgc⟩ : ∃ gc, w2.heap.size = gc := ⟨_, rfl⟩
  obtain ⟨c0, hc0⟩ : ∃ c0, R0.head.1 = c0 := ⟨_, rfl⟩
  obtain ⟨S1, hS1⟩ : ∃ S1, R0.head.2 = S1 := ⟨_, rfl⟩
  rw [hc0, hS1] at HV
  rw [hS1] at h2
  rw [hc0] at hck ⊢
  obtain ⟨seq, dims, meas, views, bats0⟩ := c0
  unfold ckv
  obtain ⟨w3, hw3⟩ : ∃ w3, w2.alloc (.cells #[.int .i64 seq, .slice A1 n1 c1, .slice A2 n2 c2, .slice A3 n3 c3, .slice none 0 0] 28) = w3 := ⟨_, rfl⟩
  have hbr2 := HBR1.out.of (f2.block _ HBR1.out.lt fun e => by have e' : g = gr := Option.some.inj e; have := HGG.out; omega)
  have hs1 := HS1.out
  have hgc1 : gr + 1 ≤ gc := by have := f2.size; omega
  have hggc : g < gc := by have := f2.size; omega
  have hbc : Blk w3 gc 28 #[.int .i64 seq, .slice A1 n1 c1, .slice A2 n2 c2, .slice A3 n3 c3, .slice none 0 0] := by rw [← hw3, ← hgc]; exact Blk.new w2 28 _
  have hfa : Fr No w2 w3 := by rw [← hw3]; exact (Fr.refl _ w2).alloc _
  have hbr3 := hbr2.of (hfa.block _ hbr2.lt id)
  have h3 : RAt w3 (some g) S1 := h2.keep hfa
  have hf3 : Fr No w w3 := (HF1.out.trans f2 fun j hj e => by have e' : g = j := Option.some.inj e; have := HGG.out; have := HGR.out; omega).trans hfa fun _ _ h => h
  have hck3 : CkAt (fun k => g < k ∧ k < gc) w3 ⟨seq, dims, meas, views, []⟩ (.slice A1 n1 c1) (.slice A2 n2 c2) (.slice A3 n3 c3) (.slice none 0 0) := by
    have q1 := (hck.dims.bound (by omega)).of (w' := w3) (E' := strE) (fun k hk => hfa.block k hk.2 id) fun _ _ h => h
    have q2 := (hck.meas.bound (by omega)).of (w' := w3) (E' := strE) (fun k hk => hfa.block k hk.2 id) fun _ _ h => h
    have q3 := (hck.views.bound (by omega)).of (w' := w3) (E' := intE) (fun k hk => hfa.block k hk.2 id) fun _ _ h => h
    exact ⟨hck.seq, q1.mono fun k hk => ⟨by omega, by omega⟩, q2.mono fun k hk => ⟨by omega, by omega⟩, q3.mono fun k hk => ⟨by omega, by omega⟩, RowE.nil _ _ _ _ _⟩
  have CC := rcount_any (some g) S1 (T0.length : Nat) w3 h3
  rw [wpt_some] at CC
  have hnle := count_le S1 T0.length
  have hT0 : T0.length ≤ 1000000000 := by omega
  have hn : (S1.count (T0.length : Nat)).1 ≤ 1000000000 := by omega
  have HV2 : Hid (readP s = readQ ⟨seq, dims, meas, views, bats0⟩ (readL seq (S1.count (T0.length : Nat)).1 (S1.count (T0.length : Nat)).2 T0 [])) := Lib.hid HV.out
  generalize (S1.count (T0.length : Nat)).1 = n at *
  generalize (S1.count (T0.length : Nat)).2 = S2 at *
  have HCC := Lib.hid CC
  have HW3 := Lib.hid hw3
  have HGC := Lib.hid hgc
  have HBC := Lib.hid hbc
  have HBR3 := Lib.hid hbr3
  have HF3 := Lib.hid hf3
  have HCK3 := Lib.hid hck3
  have HGC1 := Lib.hid hgc1
  have HGGC := Lib.hid hggc
  clear hbr2 hs1 hgc1 hggc hbc hfa hbr3 h3 hf3 hck3 CC hnle hw3 hgc h2 f2 hck hc0 hS1 HV HF1 HBR1 HS1 hs htl
  go_wp2_with fail
  rw [HW3.out, HGC.out]
  refine HCC.out.mono ?_
  clear HCC
  rintro e w4 ⟨rfl, h4, f4⟩
  have hgc' := HGC1.out
  have hg' := HGGC.out
  have hbc4 := HBC.out.of (f4.block _ HBC.out.lt fun e => by have e' : g = gc := Option.some.inj e; omega)
  have H4 := Lib.hid h4
  have HBC4 := Lib.hid hbc4
  have HF4 : Hid (Fr (FB g gc) w3 w4) := Lib.hid (f4.mono fun k _ hk => .inl (Option.some.inj hk).symm)
  clear h4 f4 hbc4
  go_wp2
  go_step3
  go_wp2
  rw [HGR.out]
  have hgc' := HGC1.out
  have HB3 : Hid (w3.heap.size = gc + 1) := Lib.hid (by rw [← HW3.out]; simp [HGC.out])
  have HN := Lib.hid hn
  go_loopg [4, 5] n (fun k r4 r5 wr => ∃ (g' m : Nat) (R : RS) (T : List UInt8) (bats : List (List FactP)) (A : Option Addr) (c : Nat), r4 = .pointer (some ⟨g', 0, none⟩) ∧ r5 = sv T ∧ bats.length = m ∧ m + k = n ∧ T.length ≤ 1000000000 ∧
    Blk wr gc 28 #[.int .i64 seq, .slice A1 n1 c1, .slice A2 n2 c2, .slice A3 n3 c3, .slice A m c] ∧ Grow (gc + 1) 76 1 batG wr (.slice A m c) bats ∧ RAt wr (some g') R ∧ Fr (FB g gc) w3 wr ∧ readL seq n S2 T0 [] = readL seq k R T bats)
  case atStart => exact ⟨g, 0, S2, T0, [], _, _, rfl, rfl, rfl, by omega, hT0, HBC4.out, Grow.nil0 _ _ _ _ _, H4.out, HF4.out, rfl⟩
  case round =>
    obtain ⟨g', m, R, T, bats, A, c, rfl, rfl, hm, hmk, hT, hbk, hgw, hR, hf, hL⟩ := hrel
    have hbx : Blk wr gr 28 zero5 := HBR3.out.of (hf.block gr HBR3.out.lt fun hk => by have h1 := HGG.out; have h2 := HGC1.out; unfold FB at hk; omega)
    have hfw : Fr No w wr := HF3.out.trans hf fun j hj e => by
      have h1 := HGG.out; have h2 := HGC1.out; have h3 := HGR.out
      unfold FB at e; omega
    -- nothing but an error
    have hbad : ∀ wx, Blk wx gr 28 zero5 → Fr No w wx → readL seq n S2 T0 [] = none → ∀ u0 u1 u2 u3 u4, u0 = .int .i64 0 → u1 = .slice none 0 0 → u2 = .slice none 0 0 → u3 = .slice none 0 0 → u4 = .slice none 0 0 →
        RdP w (readP s).1 (readP s).2 (.returned (.tuple #[.agg #[.int .i64 0, .slice none 0 0, .slice none 0 0, .slice none 0 0, .slice none 0 0], .int .i64 27])) (((((wx.setCell ⟨gr, 0, none⟩ u0).setCell ⟨gr, 1, none⟩ u1).setCell ⟨gr, 2, none⟩ u2).setCell ⟨gr, 3, none⟩ u3).setCell ⟨gr, 4, none⟩ u4) := by
      intro wx hb hfx hn0 u0 u1 u2 u3 u4 _ _ _ _ _
      have e : readP s = (CkP.zero, 27) := by rw [HV2.out, hn0]; rfl
      rw [e]
      have hset : Fr (One gr) wx (((((wx.setCell ⟨gr, 0, none⟩ u0).setCell ⟨gr, 1, none⟩ u1).setCell ⟨gr, 2, none⟩ u2).setCell ⟨gr, 3, none⟩ u3).setCell ⟨gr, 4, none⟩ u4) := ((((Fr.set0 gr wx 0 u0).set1 1 u1).set1 2 u2).set1 3 u3).set1 4 u4
      exact ⟨_, _, _, _, rfl, hfx.trans hset fun k hk' e => by have := HGR.out; unfold One at e; omega, CkAt.nil _ _ _ _ _ _ _ (by unfold i64 CkP.zero; simp) rfl rfl rfl rfl⟩
    have x0 : wr.cell? ⟨gc, 0, none⟩ = some (.int .i64 seq) := hbk.cell 0
    have x4 : wr.cell? ⟨gc, 4, none⟩ = some (.slice A m c) := hbk.cell 4
    have z0 : wr.cell? ⟨gr, 0, none⟩ = some (.int .i64 0) := hbx.cell 0
    have z1 : wr.cell? ⟨gr, 1, none⟩ = some (.slice none 0 0) := hbx.cell 1
    have z2 : wr.cell? ⟨gr, 2, none⟩ = some (.slice none 0 0) := hbx.cell 2
    have z3 : wr.cell? ⟨gr, 3, none⟩ = some (.slice none 0 0) := hbx.cell 3
    have z4 : wr.cell? ⟨gr, 4, none⟩ = some (.slice none 0 0) := hbx.cell 4
    have y0 := hbx.frozen 0
    have y1 := hbx.frozen 1
    have y2 := hbx.frozen 2
    have y3 := hbx.frozen 3
    have y4 := hbx.frozen 4
    have CD := rdone_any (some g') R wr hR
    rw [wpt_some] at CD
    obtain ⟨dn, hdn⟩ : ∃ dn, R.done = dn := ⟨_, rfl⟩
    rw [hdn] at CD
    have HCD := Lib.hid CD
    have HDN := Lib.hid hdn
    have HBK := Lib.hid hbk
    have HGW := Lib.hid hgw
    have HR := Lib.hid hR
    have HF := Lib.hid hf
    have HL := Lib.hid hL
    have HBX := Lib.hid hbx
    have HFW := Lib.hid hfw
    have HBAD := Lib.hid hbad
    have HM := Lib.hid hm
    have HMK := Lib.hid hmk
    have HT := Lib.hid hT
    clear CD hdn hbk hgw hR hf hL hbx hfw hbad hm hT
    by_cases hd : dn = 0
    · subst hd
      by_cases hs : seq < 0
      · have hlt : decide (seq < 0) = true := by simpa using hs
        have HN0 : Hid (readL seq n S2 T0 [] = none) := Lib.hid (by
          rw [HL.out]
          cases gk <;> unfold readL <;> rw [if_neg] <;> rintro ⟨_, h⟩ <;> omega)
        clear hs hmk
        go_wp2_with fail
        refine HCD.out.mono ?_
        rintro e w' ⟨rfl, rfl⟩
        go_wp2
        rw [Exit.noGoto_ret]
        refine bodyPost_ret (v := .tuple #[.agg #[.int .i64 0, .slice none 0 0, .slice none 0 0, .slice none 0 0, .slice none 0 0], .int .i64 27]) (by simp [results, Tryz.results15, go_sem, z0, z1, z2, z3, z4]) rfl ?_
        exact HBAD.out wr HBX.out HFW.out HN0.out _ _ _ _ _ rfl rfl rfl rfl rfl
      · have hge : 0 ≤ seq := by omega
        have hlt : decide (seq < 0) = false := by simpa using hge
        clear hs
        cases gk with
        | zero =>
          obtain rfl : m = n := by omega
          have hmn : decide (m < m) = false := by simp
          by_cases hT0' : T = []
          · subst hT0'
            have HN0 : Hid (readL seq m S2 T0 [] = some bats) := Lib.hid (by rw [HL.out]; unfold readL; rw [if_pos ⟨HDN.out, hge, rfl⟩])
            have hfin : ∀ u0 u1 u2 u3 u4, RdP w (readP s).1 (readP s).2 (.returned (.tuple #[.agg #[.int .i64 seq, .slice A1 n1 c1, .slice A2 n2 c2, .slice A3 n3 c3, .slice A m c], .int .i64 0])) (((((wr.setCell ⟨gr, 0, none⟩ u0).setCell ⟨gr, 1, none⟩ u1).setCell ⟨gr, 2, none⟩ u2).setCell ⟨gr, 3, none⟩ u3).setCell ⟨gr, 4, none⟩ u4) := by
              intro u0 u1 u2 u3 u4
              have e : readP s = (⟨seq, dims, meas, views, bats⟩, 0) := by rw [HV2.out, HN0.out]; rfl
              rw [e]
              have hset : Fr (One gr) wr (((((wr.setCell ⟨gr, 0, none⟩ u0).setCell ⟨gr, 1, none⟩ u1).setCell ⟨gr, 2, none⟩ u2).setCell ⟨gr, 3, none⟩ u3).setCell ⟨gr, 4, none⟩ u4) := ((((Fr.set0 gr wr 0 u0).set1 1 u1).set1 2 u2).set1 3 u3).set1 4 u4
              have h1 := HGG.out; have h2 := HGC1.out; have h3 := HGR.out; have h4 := HB3.out
              have hsz := HF.out.size
              have hkp : ∀ k, g < k ∧ k < gc → _ := fun k hk => (hset.block k (by omega) (fun e => by unfold One at e; omega)).trans (HF.out.block k (by omega) (fun e => by unfold FB at e; omega))
              have q := (HCK3.out.of hkp).mono (K' := fun k => w.heap.size ≤ k) fun k hk => by omega
              have r3 := (HGW.out.row batG_elem (by rw [HM.out]; have := HN.out; unfold maxLen; omega)).bound (by omega)
              refine ⟨_, _, _, _, rfl, HFW.out.trans hset fun k hk' e => by unfold One at e; omega, q.seq, q.dims, q.meas, q.views, ?_⟩
              have r4 := r3.of (w' := (((((wr.setCell ⟨gr, 0, none⟩ u0).setCell ⟨gr, 1, none⟩ u1).setCell ⟨gr, 2, none⟩ u2).setCell ⟨gr, 3, none⟩ u3).setCell ⟨gr, 4, none⟩ u4)) (fun k hk => hset.block k hk.2 (fun e => by unfold One at e; omega)) (fun b cs hb => batG_elem.mono _ (fun k => w.heap.size ≤ k) wr _ b cs hb fun k hk hlt => ⟨by omega, hset.block k hlt (fun e => by unfold One at e; omega)⟩)
              exact r4.mono fun k hk => by omega
            have HFIN := Lib.hid hfin
            have x1 : wr.cell? ⟨gc, 1, none⟩ = some (.slice A1 n1 c1) := HBK.out.cell 1
            have x2 : wr.cell? ⟨gc, 2, none⟩ = some (.slice A2 n2 c2) := HBK.out.cell 2
            have x3 : wr.cell? ⟨gc, 3, none⟩ = some (.slice A3 n3 c3) := HBK.out.cell 3
            clear hfin hmk
            go_wp2_with fail
            refine HCD.out.mono ?_
            rintro e w' ⟨rfl, rfl⟩
            go_wp2
            rw [Exit.noGoto_ret]
            refine bodyPost_ret (v := .tuple #[.agg #[.int .i64 seq, .slice A1 n1 c1, .slice A2 n2 c2, .slice A3 n3 c3, .slice A m c], .int .i64 0]) (by simp [results, Tryz.results15, go_sem, z0, z1, z2, z3, z4]) rfl ?_
            exact HFIN.out _ _ _ _ _
          · have HN0 : Hid (readL seq m S2 T0 [] = none) := Lib.hid (by rw [HL.out]; unfold readL; rw [if_neg]; rintro ⟨_, _, h⟩; exact hT0' h)
            have hte : T.isEmpty = false := by simpa using hT0'
            clear hT0' hmk
            go_wp2_with fail
            refine HCD.out.mono ?_
            rintro e w' ⟨rfl, rfl⟩
            go_wp2
            rw [Exit.noGoto_ret]
            refine bodyPost_ret (v := .tuple #[.agg #[.int .i64 0, .slice none 0 0, .slice none 0 0, .slice none 0 0, .slice none 0 0], .int .i64 27]) (by simp [results, Tryz.results15, go_sem, z0, z1, z2, z3, z4]) rfl ?_
            exact HBAD.out wr HBX.out HFW.out HN0.out _ _ _ _ _ rfl rfl rfl rfl rfl
        | succ k =>
          have hmn : decide (m < n) = true := by simpa using (by omega : m < n)
          have CU := unframed_any T wr (by have := HT.out; unfold maxLen; omega)
          have HCU := Lib.hid CU
          have HLS : Hid (readL seq n S2 T0 [] = readL seq k (ufR T).facts.2 (ufT T) (bats ++ [(ufR T).facts.1])) := Lib.hid (by rw [HL.out]; show (if R.done = 0 ∧ 0 ≤ seq then readL seq k (ufR T).facts.2 (ufT T) (bats ++ [(ufR T).facts.1]) else none) = _; rw [if_pos ⟨HDN.out, hge⟩])
          have HTL := Lib.hid (ufT_len T)
          obtain ⟨T1, hT1⟩ : ∃ T1, ufT T = T1 := ⟨_, rfl⟩
          obtain ⟨R1, hR1⟩ : ∃ R1, ufR T = R1 := ⟨_, rfl⟩
          rw [hT1, hR1] at HLS
          rw [hT1] at HTL
          rw [hT1, hR1] at HCU
          clear CU hT1 hR1 hmk
          go_wp2_with fail
          refine HCD.out.mono ?_
          rintro e w' ⟨rfl, rfl⟩
          go_wp2_with fail
          refine HCU.out.mono ?_
          clear HCU HCD
          rintro e w5 ⟨g5, rfl, h5, f5, hg5⟩
          rw [wpt_some]
          have hbk5 := HBK.out.of (f5.block _ HBK.out.lt id)
          have x45 : w5.cell? ⟨gc, 4, none⟩ = some (.slice A m c) := hbk5.cell 4
          have HH5 := Lib.hid h5
          have HF5 := Lib.hid f5
          have HG5 := Lib.hid hg5
          have HBK5 := Lib.hid hbk5
          clear h5 f5 hg5 hbk5 z0 z1 z2 z3 z4 y0 y1 y2 y3 y4 x0 x4
          have HC : Hid (Calls Tryz.prog 46 #[.pointer (some ⟨g5, 0, none⟩)] w5.drew fun e w6 => ∃ A5 n5 c5, e = .returned (.slice A5 n5 c5) ∧ ∃ A' c' w7, w6.cell? ⟨gc, 4, none⟩ = some (.slice A m c) ∧ (w6.alloc (.cells #[.slice A5 n5 c5] 76)).cell? ⟨gc, 4, none⟩ = some (.slice A m c) ∧ w7.cell? ⟨gc, 4, none⟩ = some (.slice A m c) ∧ w7.frozen? ⟨gc, 4, none⟩ = false ∧
              (∀ ty, (Builtin.append_ #[26, 26] ty #[.slice A m c, .slice (some ⟨w6.heap.size, 0, none⟩) 1 1]).run Tryz.prog (w6.alloc (.cells #[.slice A5 n5 c5] 76)) = .ok (.slice A' (m + 1) c') w7) ∧
              Blk w7 gc 28 #[.int .i64 seq, .slice A1 n1 c1, .slice A2 n2 c2, .slice A3 n3 c3, .slice A m c] ∧ Grow (gc + 1) 76 1 batG w7 (.slice A' (m + 1) c') (bats ++ [R1.facts.1]) ∧ RAt w7 (some g5) R1.facts.2 ∧ Fr (FB g gc) w3 w7 ∧ g5 ≠ gc) := by
            have hgs := HG5.out
            have hb3 := HB3.out
            have hsz := HF.out.size
            have hsz5 := HF5.out.size
            refine Lib.hid ((rfacts_any (some g5) R1 w5.drew (HH5.out.keep ((Fr.refl _ _).drew))).mono ?_)
            rintro e w6 ⟨V, rfl, h6, f6, r6⟩
            obtain ⟨A5, n5, c5, rfl⟩ := r6.slice
            refine ⟨A5, n5, c5, rfl, ?_⟩
            have f56 : Fr (RFt (some g5)) w5 w6 := ((Fr.refl (RFt (some g5)) w5).drew).trans f6 fun _ _ h => h
            have frw6 : Fr No wr w6 := HF5.out.trans f56 fun j hj e => by have e' : g5 = j := Option.some.inj e; omega
            have hgw6 := HGW.out.keep batG_elem frw6 (fun k hk => hk.elim)
            have hb6 : Blk w6 gc 28 #[.int .i64 seq, .slice A1 n1 c1, .slice A2 n2 c2, .slice A3 n3 c3, .slice A m c] := HBK.out.of (frw6.block _ HBK.out.lt id)
            have hel : batG (fun x => w5.heap.size ≤ x) w6 R1.facts.1 [.slice A5 n5 c5] := ⟨_, rfl, r6⟩
            obtain ⟨A', c', w7, hap, hg7, f7, hlt7⟩ := hgw6.more batG_elem (w0 := w5) (by omega) f56.size (fun x hx => by have := (HGW.out.lt x hx).2; omega) 26 Tryz.underlying26 (.slice none 0 0) info76 rfl (by omega) _ [.slice A5 n5 c5] rfl (by simp [Value.oneCell']) hel (by rw [HM.out]; have := HN.out; have := HMK.out; omega) (by rw [HM.out]; have := HN.out; have := HMK.out; unfold maxLen; omega)
            rw [HM.out] at hap hg7
            have hb7 : Blk w7 gc 28 #[.int .i64 seq, .slice A1 n1 c1, .slice A2 n2 c2, .slice A3 n3 c3, .slice A m c] := hb6.of (f7.block _ hb6.lt fun hx => by have := (HGW.out.lt _ hx).1; omega)
            have hlt := HBK.out.lt
            refine ⟨A', c', w7, hb6.cell 4, (hb6.of (((Fr.refl No w6).alloc _).block _ hb6.lt id)).cell 4, hb7.cell 4, hb7.frozen 4, hap, hb7, hg7, h6.of (fun k hk => f7.block k (h6.lt k hk) fun hx => by have h1 := (HGW.out.lt k hx).2; have e' : g5 = k := Option.some.inj hk; omega), ?_, by omega⟩
            exact (HF.out.trans frw6.any fun _ _ h => h).trans f7 fun x hlx hx => by have := (HGW.out.lt x hx).1; omega
          have HE7 : Hid ((bats ++ [R1.facts.1]).length = m + 1) := Lib.hid (by rw [List.length_append, HM.out]; rfl)
          go_upto_region 8 with fail
          go_region_law (first
            | (refine step_add rfl _ _ _ _ rfl _ _ rfl rfl (HAP.out _) ?_)
            | (go_simp; go_at_call 46; refine HC.out.mono ?_; rintro e w6 ⟨A5, n5, c5, rfl, A', c', w7, x4, x5, y1, z1, hap, hB, hG, hR, hF, hne⟩; have HAP := Lib.hid hap; have HB7 := Lib.hid hB; have HG7 := Lib.hid hG; have HR7 := Lib.hid hR; have HF7 := Lib.hid hF; have HNE := Lib.hid hne; clear hap hB hG hR hF hne))
          all_goals
            go_wp2
            go_roundg k
            case measure => omega
            case rel => exact ⟨g5, m + 1, R1.facts.2, T1, _, A', c', rfl, rfl, HE7.out, by have := HMK.out; omega, by have h1 := HTL.out; have h2 := HT.out; omega, HB7.out.set_ 4 _, HG7.out.keep batG_elem (Fr.set0 gc _ 4 _) (fun k hk => by have : k = gc := hk; omega), HR7.out.of (fun k hk => Below.heap_setCell _ _ _ _ (by have e' : g5 = k := Option.some.inj hk; have := HNE.out; show k ≠ gc; omega)), (HF7.out.setCell (p := ⟨gc, 4, none⟩) (fun _ => .inr rfl) _), HLS.out⟩
    · have hdb : (dn != 0) = true := by simpa using hd
      have HN0 : Hid (readL seq n S2 T0 [] = none) := Lib.hid (by
        rw [HL.out]
        have h0 : ¬ R.done = 0 := by rw [HDN.out]; exact hd
        cases gk <;> unfold readL <;> rw [if_neg] <;> rintro ⟨h, _⟩ <;> exact h0 h)
      clear hd hmk
      go_wp2_with fail
      refine HCD.out.mono ?_
      rintro e w' ⟨rfl, rfl⟩
      go_wp2
      rw [Exit.noGoto_ret]
      refine bodyPost_ret (v := .tuple #[.agg #[.int .i64 0, .slice none 0 0, .slice none 0 0, .slice none 0 0, .slice none 0 0], .int .i64 27]) (by simp [results, Tryz.results15, go_sem, z0, z1, z2, z3, z4]) rfl ?_
      exact HBAD.out wr HBX.out HFW.out HN0.out _ _ _ _ _ rfl rfl rfl rfl rfl
end Go.Proofs.YtikpojnmaiplnaaGreatDoor
/- A new file comes. -/
namespace Go.Proofs.YtikpojnmaiplnaaGreatDoor
open Go.RowKit Go.Maps Go.Sort
set_option linter.unusedVariables false

def AS.written (S : AS) (n : Int) (r : FR) (data : List UInt8) : AS := { S with file := upd S.file n (some { bytes := r.bytes ++ data, firm := r.firm }) }
def AS.opened (S : AS) : AS := { S with last := S.last + 1, file := upd S.file (S.last + 1) (some { bytes := [], firm := 0 }) }
def AS.made (S : AS) (l : List UInt8) : AS := S.opened.altered { frm := [], to := l, file := S.last + 1 }
def Rp.opened (R : Rp) (n : Int) (g : Nat) : Rp := { R with FD := R.FD.put (.int .i64 n) (.lit (.int .i64 g)), rc := upd R.rc n (g, .slice none 0 0) }

theorem At.opened {w w' : World} {d g fb : Nat} {R : Rp} {S : AS} (h : At w d R S) (hfb : R.fb = some fb) (hn : S.file (S.last + 1) = none) (hf : Fr (fun k => k = d ∨ k = fb) w w')
    (hb : Blk w' d 109 (cellsOf S.opened R)) (hm : w'.ownsMap Tryz.prog 3 ptrElem fb (Maps.size (R.opened (S.last + 1) g).FD) (R.opened (S.last + 1) g).FD) (hg : Blk w' g 126 #[.slice none 0 0, .int .i64 0]) (hgn : w.heap.size ≤ g) :
    At w' d (R.opened (S.last + 1) g) S.opened := by
  have lt := h.lt
  obtain ⟨a1, a2, a3, a4, a5⟩ := h.apart
  have hfm := h.files
  rw [hfb] at hfm
  obtain ⟨es, cl, hfbh⟩ := owns_map (b := fb) hfm
  have cne : ∀ {k : Nat} {cs : Array Value} {t : TypeId} {fz : Nat × Nat}, w.heap[k]? = some (.cells cs t fz) → k ≠ fb := fun hc e => map_ne_blk hfbh hc e.symm
  have ne : ∀ k, foot d R S k → k ≠ d → k ≠ fb → w'.heap[k]? = w.heap[k]? := fun k hk h1 h2 => hf.block k (lt k hk) (by rintro (e | e); exact h1 e; exact h2 e)
  have hIs : IsMap R.FD := h.files.isMap
  exact {
    blk := hb
    names := h.names.of fun b hb => ne _ (.inr (.inl hb)) (fun e => a1 (e ▸ hb)) (fun e => h.ne2 b hb (e ▸ hfb))
    firm := h.firm.of fun b hb => ne _ (.inr (.inr (.inl hb))) (fun e => a2 (e ▸ hb)) (fun e => h.ne3 b hb (e ▸ hfb))
    files := by show MapAt w' Tryz.prog 3 ptrElem R.fb _; rw [hfb]; exact hm
    loose := own_of h.loose fun k hk => ne _ (.inr (.inr (.inr (.inr (.inl hk))))) (fun e => a4 (e ▸ hk)) (by obtain ⟨cur, hc⟩ := own_row h.loose hk; exact cne hc)
    fd := fun m => by
      by_cases e : m = S.last + 1
      · subst e
        show FileAt w' _ _ (upd S.file (S.last + 1) _ (S.last + 1))
        rw [upd_same]
        have er : (R.opened (S.last + 1) g).rc (S.last + 1) = (g, .slice none 0 0) := upd_same _ _ _
        refine ⟨fun z => ?_, ?_, ?_⟩
        · rw [er]; exact atKey_put_same hIs (isKeyI _) _ z
        · rw [er]; exact hg
        · rw [er]; exact World.ownsRow_nil w' 0 5 1
      · show FileAt w' _ _ (upd S.file (S.last + 1) _ m)
        rw [upd_other _ _ e]
        have er : (R.opened (S.last + 1) g).rc m = R.rc m := upd_other _ _ e
        have hm2 := h.fd m
        cases hq : S.file m with
        | none =>
          rw [hq] at hm2
          show has (R.FD.put _ _) _ = false
          rw [has_put_other (keyI_ne e)]; exact hm2
        | some q =>
          rw [hq] at hm2
          obtain ⟨h1, h2, h3⟩ := hm2
          have ap5 := a5 m q hq
          refine ⟨fun z => ?_, ?_, ?_⟩
          · rw [er]
            show (R.FD.put _ _).atKey _ z = _
            rw [atKey_put_other (keyI_ne e)]; exact h1 z
          · rw [er]; exact h2.of (ne _ (.inr (.inr (.inr (.inr (.inr ⟨m, q, hq, .inl rfl⟩))))) ap5.1 (cne h2))
          · rw [er]; exact own_of h3 fun k hk => ne _ (.inr (.inr (.inr (.inr (.inr ⟨m, q, hq, .inr hk⟩))))) (fun e => ap5.2 (e ▸ hk)) (by obtain ⟨cur, hc⟩ := own_row h3 hk; exact cne hc)
    ne1 := h.ne1
    ne2 := h.ne2
    ne3 := h.ne3
    ap := fun m1 m2 q1 q2 hne h1 h2 => by
      have h1' : upd S.file (S.last + 1) _ m1 = some q1 := h1
      have h2' : upd S.file (S.last + 1) _ m2 = some q2 := h2
      have blt : ∀ m q, S.file m = some q → (R.rc m).1 < w.heap.size := fun m q hq => by
        have := h.fd m; rw [hq] at this; exact this.2.1.lt
      by_cases e1 : m1 = S.last + 1
      · subst e1
        have e2 : m2 ≠ S.last + 1 := Ne.symm hne
        rw [upd_other _ _ e2] at h2'
        have er1 : (R.opened (S.last + 1) g).rc (S.last + 1) = (g, .slice none 0 0) := upd_same _ _ _
        have er2 : (R.opened (S.last + 1) g).rc m2 = R.rc m2 := upd_other _ _ e2
        rw [er1, er2]
        exact ⟨fun e => by have := blt m2 q2 h2'; simp at e; omega, fun k hk => by simp [Value.ownBlock] at hk⟩
      · rw [upd_other _ _ e1] at h1'
        have er1 : (R.opened (S.last + 1) g).rc m1 = R.rc m1 := upd_other _ _ e1
        by_cases e2 : m2 = S.last + 1
        · subst e2
          have er2 : (R.opened (S.last + 1) g).rc (S.last + 1) = (g, .slice none 0 0) := upd_same _ _ _
          rw [er1, er2]
          exact ⟨fun e => by have := blt m1 q1 h1'; simp at e; omega, fun k _ hk => by simp [Value.ownBlock] at hk⟩
        · rw [upd_other _ _ e2] at h2'
          have er2 : (R.opened (S.last + 1) g).rc m2 = R.rc m2 := upd_other _ _ e2
          rw [er1, er2]
          exact h.ap m1 m2 q1 q2 hne h1' h2'
    onn := h.onn }

theorem PR.opened {w w' : World} {d g fb : Nat} {R : Rp} {S : AS} (h : At w d R S) (hfb : R.fb = some fb) (hn : S.file (S.last + 1) = none) (hf : Fr (fun k => k = d ∨ k = fb) w w')
    (hb : Blk w' d 109 (cellsOf S.opened R)) (hm : w'.ownsMap Tryz.prog 3 ptrElem fb (Maps.size (R.opened (S.last + 1) g).FD) (R.opened (S.last + 1) g).FD) (hg : Blk w' g 126 #[.slice none 0 0, .int .i64 0]) (hgn : w.heap.size ≤ g) :
    PR d R S w (R.opened (S.last + 1) g) S.opened w' := by
  refine ⟨h.opened hfb hn hf hb hm hg hgn, hf.mono (fun k _ hk => ?_), fun k hk => ?_⟩
  · rcases hk with hk | hk
    · exact .inl hk
    · exact .inr (.inr (.inr (.inl (hk ▸ hfb))))
  · rcases hk with hk | hk | hk | hk | hk | ⟨m, q, hq, hk⟩
    · exact .inl (.inl hk)
    · exact .inl (.inr (.inl hk))
    · exact .inl (.inr (.inr (.inl hk)))
    · exact .inl (.inr (.inr (.inr (.inl hk))))
    · exact .inl (.inr (.inr (.inr (.inr (.inl hk)))))
    · have hq' : upd S.file (S.last + 1) _ m = some q := hq
      by_cases e : m = S.last + 1
      · subst e
        have er : (R.opened (S.last + 1) g).rc (S.last + 1) = (g, .slice none 0 0) := upd_same _ _ _
        rw [er] at hk
        rcases hk with hk | hk
        · exact .inr (by simp at hk; omega)
        · simp [Value.ownBlock] at hk
      · rw [upd_other _ _ e] at hq'
        have er : (R.opened (S.last + 1) g).rc m = R.rc m := upd_other _ _ e
        rw [er] at hk
        exact .inl (.inr (.inr (.inr (.inr (.inr ⟨m, q, hq', hk⟩)))))

end Go.Proofs.YtikpojnmaiplnaaGreatDoor
/- Write, to a file that is there. -/
namespace Go.Proofs.YtikpojnmaiplnaaGreatDoor
open Go.RowKit Go.Maps Go.Sort
set_option linter.unusedVariables false

theorem blk_grown {w w' : World} {g : Nat} {t : TypeId} {cs : Array Value} {row : Option Nat} (h : Blk w g t cs) (hg : w.grownBy w' row) (hne : row ≠ some g) : Blk w' g t cs := h.of (hg.block g h.lt (fun e => hne e.symm))

/-- The text has been put behind a file's end. -/
theorem app_end {w w3 : World} {d : Nat} {R : Rp} {S : AS} {n : Int} {r : FR} {data : List UInt8} {v' : Value} (h : At w d R S) (hr : S.file n = some r)
    (ho : w3.ownsRow 0 5 1 v' (r.bytes.length + data.length) (r.bytes.map byteV ++ data.map byteV)) (hg : w.grownBy w3 (R.rc n).2.ownBlock) (hv : ∀ k, v'.ownBlock = some k → (R.rc n).2.ownBlock = some k ∨ w.heap.size ≤ k) :
    PR d R S w { R with rc := upd R.rc n ((R.rc n).1, v') } (S.written n r data) (w3.setCell ⟨(R.rc n).1, 0, none⟩ v') := by
  have hfd := h.fd n
  rw [hr] at hfd
  obtain ⟨_, h2, h3⟩ := hfd
  have hrow : (R.rc n).2.ownBlock ≠ some (R.rc n).1 := fun e => own_blk_ne h3 e h2 (by decide) rfl
  have hb3 := blk_grown h2 hg hrow
  have hf : Fr (fileB R n) w (w3.setCell ⟨(R.rc n).1, 0, none⟩ v') := ((Fr.refl _ w).grown hg (fun k hk _ => .inr hk)).setCell (p := ⟨(R.rc n).1, 0, none⟩) (fun _ => .inl rfl) _
  refine PR.file (r' := { bytes := r.bytes ++ data, firm := r.firm }) h hr hf (hb3.set_ 0 _) ?_ hv
  have := own_of ho (w' := w3.setCell ⟨(R.rc n).1, 0, none⟩ v') (fun k hk => Below.heap_setCell _ _ _ _ (own_blk_ne ho hk hb3 (by decide)))
  simpa [List.length_append, List.map_append] using this

theorem written_step (S : AS) (n : Int) (r : FR) (data : List UInt8) : (S.written n r data).stepE = S.stepE ∧ (S.written n r data).left = S.left := ⟨rfl, rfl⟩

set_option maxRecDepth 100000 in
set_option maxHeartbeats 2000000 in
theorem write_old (d : Nat) (R : Rp) (S : AS) (l : List UInt8) (n : Int) (r : FR) (data : List UInt8) (w : World) (h : At w d R S) (hW : WF S) (hl : l.length ≤ maxLen) (hE : checkOf S.on [l] = 0) (hn : look S.names l = some n) (hr : S.file n = some r)
    (hsz : Maps.size S.names ≤ 1000000) (hfit : usedOf S.file S.names + data.length ≤ S.room) :
    Calls Tryz.prog 110 #[.pointer (some ⟨d, 0, none⟩), .string ⟨l.toArray⟩, .string ⟨data.toArray⟩] w fun e w' => e = .returned (.int .i64 S.stepE) ∧ Post d R S w (S.written n r data).step w' := by
  have hcon := check_new d R S l 0 w h hE hl
  have hon := on_of hE
  obtain ⟨nb, fb, e1, e2⟩ := h.onn hon
  obtain ⟨w1, hw1⟩ : ∃ w1, w.alloc (.cells #[.string ⟨l.toArray⟩] 9) = w1 := ⟨_, rfl⟩
  have f1 : Fr No w w1 := by rw [← hw1]; exact (Fr.refl _ w).alloc _
  rw [hw1] at hcon
  have h1 := h.keep f1
  have P1 := PR.same h f1
  have hnm := h1.names
  rw [e1] at hnm
  have hrun := run_look_some (b := nb) hnm hl hn
  have c5 := (cells_all h1).2.2.2.2.2.1
  rw [e1] at c5
  have hused := used_regrown h1 hW e1 hsz
  have HU := Lib.hid hused
  have c0 : ∀ dd os, (grow (redrawn w1 dd) os).cell? ⟨d, 0, none⟩ = some (.int .i64 S.room) := fun dd os => (cells_all (h1.regrown dd os)).1
  obtain ⟨hU1, hU2⟩ := used_bounds h hW hsz
  have hroom := hW.room
  generalize hu : usedOf S.file S.names = U at *
  have hsd : (⟨data.toArray⟩ : ByteArray).size = data.length := by simp [ByteArray.size]
  have t1 : IntKind.i64.wrap (S.room - U) = S.room - U := IntWalk.i64_in _ (by omega)
  have t2 : decide (S.room - U < (data.length : Int)) = false := by simp; omega
  have HC := Lib.hid hcon
  have hwf := hW.wf hr
  have hblen : r.bytes.length + data.length ≤ 140737488355328 := by have := (hW.file n r hr).2.2.2; omega
  have hst := fun R' w' (h' : At w' d R' (S.written n r data)) => step_any d R' (S.written n r data) w' h' hW.left.2
  have HST := Lib.hid hst
  have HP1 := Lib.hid P1
  clear hused hu hn hE h hW hon e1 h1 hnm f1 hl hcon P1 hst hsd
  go_enter Tryz.func110, Tryz.ntmps110
  go_wp2_with fail
  refine HC.out.mono ?_
  rintro e w' ⟨rfl, rfl⟩
  go_wp2_with fail
  refine wp_region_quiet_below mixed (by kernel_rfl) ?_
  repeat (first | go_big_quiet_step (exact HU.out _ _) | quiet_step (exact HU.out _ _))
  refine wpQuiet_nil ?_
  intro w2 hp
  have hb2 : Below w1.heap.size w1 w2 := by obtain ⟨p, rfl⟩ := hp; exact below_regrown _ _ _
  have P2 := HP1.out.trans (PR.same HP1.out.at_ (Fr.of_below hb2))
  have h2 := P2.at_
  have hfl := h2.files
  rw [e2] at hfl
  have hfd := h2.fd n
  rw [hr] at hfd
  obtain ⟨hfa, hfb, hfo⟩ := hfd
  have hrun2 := run_file (b := fb) hfl hwf hfa
  have c8 := (cells_all h2).2.2.2.2.2.2.2.2.1
  rw [e2] at c8
  have k0 : w2.cell? ⟨(R.rc n).1, 0, none⟩ = some (R.rc n).2 := hfb.cell 0
  have hq : ∀ w3, w2.grownBy w3 (R.rc n).2.ownBlock → w3.cell? ⟨(R.rc n).1, 0, none⟩ = some (R.rc n).2 ∧ w3.frozen? ⟨(R.rc n).1, 0, none⟩ = false := fun w3 hg => by
    have := blk_grown hfb hg (fun e => own_blk_ne hfo e hfb (by decide) rfl)
    exact ⟨this.cell 0, this.frozen 0⟩
  have HQ := Lib.hid hq
  have HO := Lib.hid hfo
  have HP2 := Lib.hid P2
  clear hp hb2 P2 h2 hfl hfa hfb hfo hq HP1 HU HC c0 c5 hrun hwf e2 t1 t2
  go_wp2_with (at_builtin; refine wpList_app rfl _ _ rfl _ _ _ data rfl rfl HO.out hblen ?_; intro vA vc w3 ho3 hg3 hv3; have q0 := (HQ.out w3 hg3).1; have qf := (HQ.out w3 hg3).2; have P3 := HP2.out.trans (app_end HP2.out.at_ hr ho3 hg3 hv3); have HP3 := Lib.hid P3; clear ho3 hg3 hv3 P3 HQ HO HP2)
  refine (HST.out _ _ HP3.out.at_).mono ?_
  rintro e w4 ⟨rfl, h4, f4⟩
  have P4 := HP3.out.trans (PR.own h4 f4 (step_same _).2.2.2.1)
  clear h4 f4 HP3 HST
  go_wp2
  go_ret
  exact ⟨rfl, P4.post⟩

end Go.Proofs.YtikpojnmaiplnaaGreatDoor
/- Write, that makes a file; Write, refused. -/
namespace Go.Proofs.YtikpojnmaiplnaaGreatDoor
open Go.RowKit Go.Maps Go.Sort
set_option linter.unusedVariables false

set_option maxHeartbeats 400000 in
theorem write_bad (d : Nat) (R : Rp) (S : AS) (l : List UInt8) (data : ByteArray) (E : Int) (w : World) (h : At w d R S) (hl : l.length ≤ maxLen) (hE : checkOf S.on [l] = E) (hb : E ≠ 0) :
    Calls Tryz.prog 110 #[.pointer (some ⟨d, 0, none⟩), .string ⟨l.toArray⟩, .string data] w fun e w' => e = .returned (.int .i64 E) ∧ Fr No w w' := by
  have hne2 : (E != 0) = true := by simpa using hb
  have hcon := check_new d R S l E w h hE hl
  clear hE hb hl
  go_enter Tryz.func110, Tryz.ntmps110
  go_wp2_with fail
  refine hcon.mono ?_
  rintro e w' ⟨rfl, rfl⟩
  go_wp2
  go_ret
  exact ⟨rfl, (Fr.refl _ _).alloc _⟩

theorem len_regrown {w : World} {d b : Nat} {R : Rp} {S : AS} (h : At w d R S) (e1 : R.nm = some b) (dd : Nat) (os : Array Obj) (ty : TypeId) :
    (Builtin.len_ #[100] ty #[.map (some b)]).run Tryz.prog (grow (redrawn w dd) os) = .ok (.int .i64 (Maps.size S.names)) (grow (redrawn w dd) os) := by
  have := (h.regrown dd os).names
  rw [e1] at this
  exact World.ownsMap.len (b := b) this Tryz.underlying100 ty

set_option maxRecDepth 100000 in
set_option maxHeartbeats 1000000 in
theorem write_full2 (d : Nat) (R : Rp) (S : AS) (l : List UInt8) (data : List UInt8) (w : World) (h : At w d R S) (hW : WF S) (hl : l.length ≤ maxLen) (hE : checkOf S.on [l] = 0) (hn : look S.names l = none)
    (hsz : Maps.size S.names ≤ 1000000) (hfit : usedOf S.file S.names + data.length ≤ S.room) (hfull : 64 ≤ Maps.size S.names) :
    Calls Tryz.prog 110 #[.pointer (some ⟨d, 0, none⟩), .string ⟨l.toArray⟩, .string ⟨data.toArray⟩] w fun e w' => e = .returned (.int .i64 12) ∧ Fr No w w' := by
  have hcon := check_new d R S l 0 w h hE hl
  have hon := on_of hE
  obtain ⟨nb, fb, e1, e2⟩ := h.onn hon
  obtain ⟨w1, hw1⟩ : ∃ w1, w.alloc (.cells #[.string ⟨l.toArray⟩] 9) = w1 := ⟨_, rfl⟩
  have f1 : Fr No w w1 := by rw [← hw1]; exact (Fr.refl _ w).alloc _
  rw [hw1] at hcon
  have h1 := h.keep f1
  have hnm := h1.names
  rw [e1] at hnm
  have hrun := run_look_none (b := nb) hnm hl hn
  have c5 := (cells_all h1).2.2.2.2.2.1
  rw [e1] at c5
  have hused := used_regrown h1 hW e1 hsz
  have HU := Lib.hid hused
  have c0 : ∀ dd os, (grow (redrawn w1 dd) os).cell? ⟨d, 0, none⟩ = some (.int .i64 S.room) := fun dd os => (cells_all (h1.regrown dd os)).1
  have c5' : ∀ dd os, (grow (redrawn w1 dd) os).cell? ⟨d, 5, none⟩ = some (.map (some nb)) := fun dd os => by
    have := (cells_all (h1.regrown dd os)).2.2.2.2.2.1
    rw [e1] at this; exact this
  have hlen := len_regrown h1 e1
  obtain ⟨hU1, hU2⟩ := used_bounds h hW hsz
  have hroom := hW.room
  generalize hu : usedOf S.file S.names = U at *
  have t1 : IntKind.i64.wrap (S.room - U) = S.room - U := IntWalk.i64_in _ (by omega)
  have t2 : decide (S.room - U < (data.length : Int)) = false := by simp; omega
  have t3 : decide ((64 : Int) ≤ (Maps.size S.names : Int)) = true := by simp; omega
  have HF := Lib.hid f1
  have HC := Lib.hid hcon
  clear hused hu hn hE h hW hon e1 e2 h1 hnm f1 hl hcon
  go_enter Tryz.func110, Tryz.ntmps110
  go_wp2_with fail
  refine HC.out.mono ?_
  rintro e w' ⟨rfl, rfl⟩
  go_wp2_with fail
  refine wp_region_quiet_below mixed (by kernel_rfl) ?_
  repeat (first | go_big_quiet_step (exact HU.out _ _) | quiet_step (exact HU.out _ _))
  refine wpQuiet_nil ?_
  rintro w2 ⟨p, rfl⟩
  go_wp2
  go_ret
  exact ⟨rfl, HF.out.trans (Fr.of_below (below_regrown w1 p.d p.os)) fun _ _ hj => hj⟩

end Go.Proofs.YtikpojnmaiplnaaGreatDoor
/- Write, that makes a file. -/
namespace Go.Proofs.YtikpojnmaiplnaaGreatDoor
open Go.RowKit Go.Maps Go.Sort
set_option linter.unusedVariables false

theorem rising_len : ∀ (l : List Int) (lo hi : Int), l.Pairwise (· < ·) → (∀ x ∈ l, lo ≤ x ∧ x ≤ hi) → (l.length : Int) ≤ max 0 (hi - lo + 1)
  | [], lo, hi, _, _ => by simp; omega
  | x :: l, lo, hi, hp, hb => by
    obtain ⟨h1, h2⟩ := List.pairwise_cons.1 hp
    have hx := hb x (by simp)
    have ih := rising_len l (x + 1) hi h2 (fun y hy => by have := h1 y hy; have := hb y (by simp [hy]); omega)
    simp only [List.length_cons]
    push_cast
    omega

theorem fd_size {w : World} {d : Nat} {R : Rp} {S : AS} (h : At w d R S) (hW : WF S) : (Maps.size R.FD : Int) ≤ S.last := by
  have hl := hW.last
  cases hb : R.fb with
  | none =>
    have := h.files
    rw [hb] at this
    rw [show R.FD = .map [] from this]
    simp [Maps.size]; omega
  | some fb =>
    have hm := h.files
    rw [hb] at hm
    have ho : w.ownsMap Tryz.prog 3 ptrElem fb (Maps.size R.FD) R.FD := hm
    obtain ⟨es, he, hp, hk⟩ := ho.canon law3
    obtain ⟨es', he', hk'⟩ := ho.keysOf
    rw [he] at he'
    cases he'
    have hint : ∀ p ∈ es, ∃ n, p.1 = .int .i64 n := fun p hp => by
      obtain ⟨v, hv⟩ := hk' p hp
      obtain ⟨x, _, hx, _⟩ := Maps.keyOf_int_inv Tryz.underlying3 hv
      exact ⟨x, hx⟩
    let f : Lit × DU → Int := fun p => match p.1 with | .int _ n => n | _ => 0
    have hr := rising_len (es.map f) 1 S.last (by
      rw [List.pairwise_map]
      refine hp.imp_of_mem ?_
      intro p q hpm hqm hb
      obtain ⟨n, hn⟩ := hint p hpm
      obtain ⟨m, hm⟩ := hint q hqm
      show (match p.1 with | .int _ n => n | _ => 0) < (match q.1 with | .int _ n => n | _ => 0)
      rw [hn, hm] at hb ⊢
      simpa [Lit.before] using hb) (fun x hx => by
      obtain ⟨p, hpm, rfl⟩ := List.mem_map.1 hx
      obtain ⟨n, hn⟩ := hint p hpm
      have hh : has R.FD (.int .i64 n) = true := by
        rw [he, has_eq, List.any_eq_true]
        exact ⟨p, hpm, by rw [← hn]; exact WideAt.sameKey_self (hk p hpm)⟩
      have hfd := h.fd n
      show 1 ≤ (match p.1 with | .int _ n => n | _ => 0) ∧ (match p.1 with | .int _ n => n | _ => 0) ≤ S.last
      rw [hn]
      cases hf : S.file n with
      | none => rw [hf] at hfd; rw [show has R.FD (.int .i64 n) = false from hfd] at hh; cases hh
      | some r => have := hW.file n r hf; exact ⟨this.1, this.2.1⟩)
    rw [he, Maps.size_eq]
    rw [List.length_map] at hr
    omega

theorem opened_mem {w2 w3 : World} {d fb : Nat} {R : Rp} {S : AS} (h : At w2 d R S) (hfb : R.fb = some fb) (hn : S.file (S.last + 1) = none)
    (ho : w3.ownsMap Tryz.prog 3 ptrElem fb (Maps.size R.FD + 1) (R.FD.put (.int .i64 (S.last + 1)) (.lit (.int .i64 w2.heap.size))))
    (ht : ((w2.setCell ⟨d, 9, none⟩ (.int .i64 (S.last + 1))).alloc (.cells #[.slice none 0 0, .int .i64 0] 126)).mapTurned w3 fb) :
    PR d R S w2 (R.opened (S.last + 1) w2.heap.size) S.opened w3 := by
  have hfbd : fb ≠ d := fun e => h.apart.2.2.1 (e ▸ hfb)
  have hfl : fb < w2.heap.size := h.files.lt fb hfb
  have hs : (w2.setCell ⟨d, 9, none⟩ (.int .i64 (S.last + 1))).heap.size = w2.heap.size := by simp [World.setCell]
  have hg := ht.grown
  have hf : Fr (fun k => k = d ∨ k = fb) w2 w3 := (((Fr.refl _ w2).setCell (p := ⟨d, 9, none⟩) (fun _ => .inl rfl) _).alloc _).grown hg (fun k hk _ => .inr (by cases hk; rfl))
  have hd := h.blk.lt
  refine PR.opened h hfb hn hf ?_ (owns_tight ho) ?_ (Nat.le_refl _)
  · refine Blk.of (w := (w2.setCell ⟨d, 9, none⟩ (.int .i64 (S.last + 1))).alloc (.cells #[.slice none 0 0, .int .i64 0] 126)) ?_ (hg.block d (by simp [hs]; omega) (fun e => hfbd (by cases e; rfl)))
    exact Blk.of (h.blk.set_ 9 (.int .i64 (S.last + 1))) (Below.heap_alloc _ _ d (by rw [hs]; exact hd))
  · have hnew := Blk.new (w2.setCell ⟨d, 9, none⟩ (.int .i64 (S.last + 1))) 126 #[.slice none 0 0, .int .i64 0]
    rw [hs] at hnew
    exact hnew.of (hg.block _ (by simp [hs]) (fun e => by cases e; omega))

set_option maxRecDepth 100000 in
set_option maxHeartbeats 4000000 in
theorem write_new (d : Nat) (R : Rp) (S : AS) (l : List UInt8) (data : List UInt8) (w : World) (h : At w d R S) (hW : WF S) (hl : l.length ≤ maxLen) (hE : checkOf S.on [l] = 0) (hn : look S.names l = none)
    (hsz : Maps.size S.names ≤ 1000000) (hfit : usedOf S.file S.names + data.length ≤ S.room) (hfew : Maps.size S.names < 64) (hlast : S.last < 4611686018427387904) (hll : S.loose.length < 3000000000000) :
    Calls Tryz.prog 110 #[.pointer (some ⟨d, 0, none⟩), .string ⟨l.toArray⟩, .string ⟨data.toArray⟩] w fun e w' => e = .returned (.int .i64 S.stepE) ∧ Post d R S w ((S.made l).written (S.last + 1) { bytes := [], firm := 0 } data).step w' := by
  have hcon := check_new d R S l 0 w h hE hl
  have hon := on_of hE
  obtain ⟨nb, fb, e1, e2⟩ := h.onn hon
  obtain ⟨w1, hw1⟩ : ∃ w1, w.alloc (.cells #[.string ⟨l.toArray⟩] 9) = w1 := ⟨_, rfl⟩
  have f1 : Fr No w w1 := by rw [← hw1]; exact (Fr.refl _ w).alloc _
  rw [hw1] at hcon
  have h1 := h.keep f1
  have P1 := PR.same h f1
  have hnm := h1.names
  rw [e1] at hnm
  have hrun := run_look_none (b := nb) hnm hl hn
  have c5 := (cells_all h1).2.2.2.2.2.1
  rw [e1] at c5
  have hused := used_regrown h1 hW e1 hsz
  have HU := Lib.hid hused
  have c0 : ∀ dd os, (grow (redrawn w1 dd) os).cell? ⟨d, 0, none⟩ = some (.int .i64 S.room) := fun dd os => (cells_all (h1.regrown dd os)).1
  have c5' : ∀ dd os, (grow (redrawn w1 dd) os).cell? ⟨d, 5, none⟩ = some (.map (some nb)) := fun dd os => by
    have := (cells_all (h1.regrown dd os)).2.2.2.2.2.1
    rw [e1] at this; exact this
  have hlen := len_regrown h1 e1
  obtain ⟨hU1, hU2⟩ := used_bounds h hW hsz
  have hroom := hW.room
  generalize hu : usedOf S.file S.names = U at *
  have t1 : IntKind.i64.wrap (S.room - U) = S.room - U := IntWalk.i64_in _ (by omega)
  have t2 : decide (S.room - U < (data.length : Int)) = false := by simp; omega
  have t3 : decide ((64 : Int) ≤ (Maps.size S.names : Int)) = false := by simp; omega
  have hnone : S.file (S.last + 1) = none := by
    cases hf : S.file (S.last + 1) with
    | none => rfl
    | some r => have := (hW.file _ r hf).2.1; omega
  have hwl := hW.last
  have hwf : (Lit.int .i64 (S.last + 1)).wf = true := wf64 (by omega) (by omega)
  have hfds : Maps.size R.FD < maxLen := by have := fd_size h hW; unfold maxLen; omega
  have HC := Lib.hid hcon
  have HP1 := Lib.hid P1
  have HWF := Lib.hid hwf
  have HNN := Lib.hid hnone
  have HON := Lib.hid hon
  have hdlen : data.length ≤ 16777216 := by omega
  have HE1 := Lib.hid e1
  have HE2 := Lib.hid e2
  have hst := fun R' w' (h' : At w' d R' ((S.made l).written (S.last + 1) { bytes := [], firm := 0 } data)) => step_any d R' ((S.made l).written (S.last + 1) { bytes := [], firm := 0 } data) w' h' hW.left.2
  have HST := Lib.hid hst
  have halt := fun g w' (h' : At w' d (R.opened (S.last + 1) g) S.opened) => alter_any d (R.opened (S.last + 1) g) S.opened { frm := [], to := l, file := S.last + 1 } nb w' h' e1 (by simp [maxLen]) hl (by show Maps.size S.names < maxLen; unfold maxLen; omega) hwf hll
  have HAL := Lib.hid halt
  clear halt hst hused hu hn hE h hW hon h1 hnm f1 hl hcon P1 hwf hnone e1 e2
  go_enter Tryz.func110, Tryz.ntmps110
  go_wp2_with fail
  refine HC.out.mono ?_
  rintro e w' ⟨rfl, rfl⟩
  go_wp2_with fail
  refine wp_region_quiet_below mixed (by kernel_rfl) ?_
  repeat (first | go_big_quiet_step (exact HU.out _ _) | quiet_step (exact HU.out _ _))
  refine wpQuiet_nil ?_
  intro w2 hp
  have hb2 : Below w1.heap.size w1 w2 := by obtain ⟨p, rfl⟩ := hp; exact below_regrown _ _ _
  have P2 := HP1.out.trans (PR.same HP1.out.at_ (Fr.of_below hb2))
  have h2 := P2.at_
  have HP2 := Lib.hid P2
  have c9 := (cells_all h2).2.2.2.2.2.2.2.2.2
  have c8 := (cells_all h2).2.2.2.2.2.2.2.2.1
  rw [HE2.out] at c8
  have z9 := h2.blk.frozen 9
  have hfm := h2.files
  rw [HE2.out] at hfm
  have hfd : fb ≠ d := fun e => h2.apart.2.2.1 (e ▸ HE2.out)
  have hfm' : ((w2.setCell ⟨d, 9, none⟩ (.int .i64 (S.last + 1))).alloc (.cells #[.slice none 0 0, .int .i64 0] 126)).ownsMap Tryz.prog 3 ptrElem fb (Maps.size R.FD) R.FD :=
    (World.ownsMap.setCell (b := fb) hfm (a := ⟨d, 9, none⟩) hfd _).alloc _
  have HFM := Lib.hid hfm'
  clear hp hb2 P2 h2 HP1 HU HC c0 c5 c5' hlen hrun t1 t2 t3 hfm hfm' hfd
  go_wp2_with (at_mapUpdate; refine wpList_mapUpdate_in _ rfl _ _ _ 101 rfl 3 117 law3 Tryz.underlying101 ptrElem fb _ R.FD rfl HFM.out hfds _ _ (.int .i64 (S.last + 1)) rfl rfl (key3 _ HWF.out) (.lit (.int .i64 w2.heap.size)) [] (ptrElem_mk w2.heap.size) ?_; intro w3 hown3 hturn3; have P3 := HP2.out.trans (opened_mem HP2.out.at_ HE2.out HNN.out hown3 hturn3); have HP3 := Lib.hid P3; clear hown3 hturn3 P3 HP2 HFM)
  refine (HAL.out _ _ HP3.out.at_).mono ?_
  rintro e w4 ⟨rfl, hpost⟩
  obtain ⟨R2, P4'⟩ := hpost
  have P4 := HP3.out.trans P4'
  have h4 : At w4 d R2 (S.made l) := P4.at_
  have hr4 : (S.made l).file (S.last + 1) = some { bytes := [], firm := 0 } := upd_same _ _ _
  obtain ⟨nb2, fb2, e1', e2'⟩ := h4.onn HON.out
  have hfl := h4.files
  rw [e2'] at hfl
  have hfd := h4.fd (S.last + 1)
  rw [hr4] at hfd
  obtain ⟨hfa, hfb, hfo⟩ := hfd
  have hrun2 := run_file (b := fb2) hfl HWF.out hfa
  have c8' := (cells_all h4).2.2.2.2.2.2.2.2.1
  rw [e2'] at c8'
  have k0 : w4.cell? ⟨(R2.rc (S.last + 1)).1, 0, none⟩ = some (R2.rc (S.last + 1)).2 := hfb.cell 0
  have hq : ∀ w5, w4.grownBy w5 (R2.rc (S.last + 1)).2.ownBlock → w5.cell? ⟨(R2.rc (S.last + 1)).1, 0, none⟩ = some (R2.rc (S.last + 1)).2 ∧ w5.frozen? ⟨(R2.rc (S.last + 1)).1, 0, none⟩ = false := fun w5 hg => by
    have := blk_grown hfb hg (fun e => own_blk_ne hfo e hfb (by decide) rfl)
    exact ⟨this.cell 0, this.frozen 0⟩
  have HQ := Lib.hid hq
  have HO := Lib.hid hfo
  have HP4 := Lib.hid P4
  have HR4 := Lib.hid hr4
  have hblen : ([] : List UInt8).length + data.length ≤ 140737488355328 := by simp; omega
  have HBL := Lib.hid hblen
  clear P4' P4 h4 hr4 e1' e2' hfl hfa hfb hfo hq hblen c8 c9 z9 HP3 HAL
  go_wp2_with (at_builtin; refine wpList_app rfl _ _ rfl _ _ _ data rfl rfl HO.out HBL.out ?_; intro vA vc w5 ho5 hg5 hv5; have q0 := (HQ.out w5 hg5).1; have qf := (HQ.out w5 hg5).2; have P5 := HP4.out.trans (app_end (S := S.made l) HP4.out.at_ HR4.out ho5 hg5 hv5); have HP5 := Lib.hid P5; clear ho5 hg5 hv5 P5 HQ HO HP4)
  have P5 := HP5.out
  rw [show ([] : List UInt8).length + data.length = data.length from by simp] at P5
  refine (HST.out _ _ P5.at_).mono ?_
  rintro e w6 ⟨rfl, h6, f6⟩
  have P6 := P5.trans (PR.own h6 f6 (step_same _).2.2.2.1)
  clear h6 f6 HP5 P5 HST
  go_wp2
  go_ret
  exact ⟨rfl, P6.post⟩

end Go.Proofs.YtikpojnmaiplnaaGreatDoor
/- Settle: the names are firm, and what no name stands for is forgotten. -/
namespace Go.Proofs.YtikpojnmaiplnaaGreatDoor
open Go.RowKit Go.Maps Go.Sort
set_option linter.unusedVariables false

/-- Does an entry stand for file n? -/
def stands (n : Int) (p : Lit × DU) : Bool := match p.2 with | .lit (.int .i64 m) => m == n | _ => false
def keeps (D : DU) (n : Int) : Bool := match D with | .map es => es.any (stands n) | _ => false
/-- .. that has come already -/
def kept (D : DU) (left : Lit → Bool) (n : Int) : Bool := match D with | .map es => es.any (fun p => !left p.1 && stands n p) | _ => false

def AS.settled (S : AS) : AS := { S with firm := S.names, loose := [], file := fun n => if keeps S.names n then S.file n else none }

theorem kept_start {D : DU} (c : Canon D) (n : Int) : kept D (has D) n = false := by
  obtain ⟨es, rfl, hp, hk⟩ := c
  unfold kept
  simp only
  rw [List.any_eq_false]
  intro p hpm
  have : has (.map es : DU) p.1 = true := by rw [has_eq, List.any_eq_true]; exact ⟨p, hpm, WideAt.sameKey_self (hk p hpm)⟩
  simp [this]
theorem kept_end {D : DU} {left : Lit → Bool} (h : ∀ k, left k = false) (n : Int) : kept D left n = keeps D n := by
  unfold kept keeps
  cases D with
  | map es => simp [h]
  | _ => rfl

theorem find_entry {D : DU} (c : Canon D) {kl : Lit} {v : DU} (hat : ∀ z, D.atKey kl z = v) : ∃ es p, D = .map es ∧ p ∈ es ∧ p.1 = kl ∧ p.2 = v ∧ ∀ q ∈ es, q.1 = kl → q = p := by
  obtain ⟨es, rfl, hp, hk⟩ := c
  have hh := has_true_of_atKey hat
  rw [has_eq, List.any_eq_true] at hh
  obtain ⟨p, hpm, hs⟩ := hh
  cases hf : es.find? (fun p => p.1.sameKey kl) with
  | none => rw [List.find?_eq_none] at hf; exact absurd hs (hf p hpm)
  | some q =>
    have hq := List.mem_of_find?_eq_some hf
    have hqs := List.find?_some hf
    have hqk : q.1 = kl := by
      by_cases e : q.1 = kl
      · exact e
      · rw [sameKey_ne e] at hqs; cases hqs
    have hv := hat .nil
    simp only [DataW.atKey, hf] at hv
    refine ⟨es, q, rfl, hq, hqk, hv, fun r hr hrk => ?_⟩
    have hap := apart_of_rising hp
    rcases List.getElem_of_mem hr with ⟨i, hi, rfl⟩
    rcases List.getElem_of_mem hq with ⟨j, hj, e⟩
    by_cases hij : i = j
    · subst hij; exact e
    · exfalso
      have hk' : es[i].1 = es[j].1 := by rw [hrk, e, hqk]
      rcases Nat.lt_or_gt_of_ne hij with h | h
      · exact List.pairwise_iff_getElem.1 hap i j hi hj h hk'
      · exact List.pairwise_iff_getElem.1 hap j i hj hi h hk'.symm

theorem kept_step {D : DU} (c : Canon D) {left : Lit → Bool} {kl : Lit} {m : Int} (hk : WideAt.IsKeyLit kl) (hat : ∀ z, D.atKey kl z = .lit (.int .i64 m)) (n : Int) :
    kept D (fun z => left z && !z.sameKey kl) n = (kept D left n || m == n) := by
  obtain ⟨es, p, rfl, hpm, hpk, hpv, hu⟩ := find_entry c hat
  unfold kept
  simp only
  rw [Bool.eq_iff_iff]
  simp only [List.any_eq_true, Bool.or_eq_true]
  constructor
  · rintro ⟨q, hq, h⟩
    rw [Bool.and_eq_true] at h
    obtain ⟨h1, h2⟩ := h
    by_cases e : q.1 = kl
    · have := hu q hq e
      subst this
      right
      unfold stands at h2
      rw [hpv] at h2
      exact h2
    · left
      refine ⟨q, hq, ?_⟩
      rw [sameKey_ne e] at h1
      simp at h1
      simp [h1, h2]
  · rintro (⟨q, hq, h⟩ | h)
    · refine ⟨q, hq, ?_⟩
      rw [Bool.and_eq_true] at h ⊢
      refine ⟨?_, h.2⟩
      have := h.1
      simp at this
      simp [this]
    · refine ⟨p, hpm, ?_⟩
      rw [Bool.and_eq_true]
      refine ⟨?_, ?_⟩
      · rw [hpk, WideAt.sameKey_self hk]; simp
      · unfold stands; rw [hpv]; exact h

theorem keeps_look {D : DU} (c : Canon D) {l : List UInt8} {n : Int} (hat : ∀ z, D.atKey (.string l) z = .lit (.int .i64 n)) : keeps D n = true := by
  obtain ⟨es, p, rfl, hpm, hpk, hpv, hu⟩ := find_entry c hat
  unfold keeps
  simp only
  rw [List.any_eq_true]
  exact ⟨p, hpm, by unfold stands; rw [hpv]; simp⟩

/-- What the new table of files holds. -/
def Files (R : Rp) (D Dout : DU) (left : Lit → Bool) : Prop :=
  ∀ n, has Dout (.int .i64 n) = kept D left n ∧ (kept D left n = true → ∀ z, Dout.atKey (.int .i64 n) z = .lit (.int .i64 (R.rc n).1))

theorem Files.step {R : Rp} {D Dout : DU} {left : Lit → Bool} (h : Files R D Dout left) (c : Canon D) (hm : IsMap Dout) {kl : Lit} {m : Int} (hk : WideAt.IsKeyLit kl) (hat : ∀ z, D.atKey kl z = .lit (.int .i64 m)) :
    Files R D (Dout.put (.int .i64 m) (.lit (.int .i64 (R.rc m).1))) (fun z => left z && !z.sameKey kl) := by
  intro n
  rw [kept_step c hk hat]
  by_cases e : n = m
  · subst e
    rw [has_put_same hm (isKeyI n)]
    exact ⟨by simp, fun _ z => atKey_put_same hm (isKeyI n) _ z⟩
  · have e' : (m == n) = false := by simpa using Ne.symm e
    rw [has_put_other (keyI_ne e), e', Bool.or_false]
    exact ⟨(h n).1, fun hk z => by rw [atKey_put_other (keyI_ne e)]; exact (h n).2 hk z⟩

theorem keeps_ref {w : World} {b m : Nat} {D : DU} (ho : w.ownsMap Tryz.prog 9 (plainElem Tryz.prog 3) b m D) {n : Int} (h : keeps D n = true) : ∃ l, look D l = some n := by
  obtain ⟨es, rfl, hp, hk⟩ := ho.canon law9
  obtain ⟨es', he', hk'⟩ := ho.keysOf
  cases he'
  unfold keeps at h
  simp only at h
  rw [List.any_eq_true] at h
  obtain ⟨p, hpm, hs⟩ := h
  obtain ⟨v, hv⟩ := hk' p hpm
  obtain ⟨l, hl⟩ := key_string hv
  have hh : has (.map es : DU) (.string l) = true := by rw [has_eq, List.any_eq_true]; exact ⟨p, hpm, by rw [← hl]; exact WideAt.sameKey_self (hk p hpm)⟩
  obtain ⟨c, hc⟩ := owns_ints ho l hh
  obtain ⟨es2, q, he2, hq, hqk, hqv, hu⟩ := find_entry (ho.canon law9) hc
  cases he2
  have := hu p hpm hl
  subst this
  unfold stands at hs
  rw [hqv] at hs
  have e : c = n := by simpa using hs
  subst e
  exact ⟨l, by unfold look; rw [hc .nil]⟩

theorem settle_end {w wr : World} {d b F m : Nat} {R : Rp} {S : AS} {Dout : DU} {left : Lit → Bool} (h : At w d R S) (hW : ∀ l n, look S.names l = some n → ∃ r, S.file n = some r) (hnm : R.nm = some b) (hfr : Fr (One d) w wr)
    (hbk : Blk wr d 109 #[.int .i64 S.room, .bool S.on, .bool S.armed, .int .i64 S.left, .int .i64 S.steps, .map R.nm, .map (some w.heap.size), .slice none 0 0, .map R.fb, .int .i64 S.last])
    (hout : wr.ownsMap Tryz.prog 3 ptrElem F m Dout) (hF : Files R S.names Dout left) (hl : ∀ k, left k = false) (hfm : wr.ownsMap Tryz.prog 9 (plainElem Tryz.prog 3) w.heap.size (Maps.size S.names) S.names) (hlt : w.heap.size < F) :
    ∃ R', PR d R S w R' S.settled (wr.setCell ⟨d, 8, none⟩ (.map (some F))) ∧ ∃ b c, R'.nm = some b ∧ R'.fb = some c := by
  obtain ⟨a1, a2, a3, a4, a5⟩ := h.apart
  have hdl := h.blk.lt
  have hf : Fr (One d) w (wr.setCell ⟨d, 8, none⟩ (.map (some F))) := hfr.set1 8 _
  have ne : ∀ k, foot d R S k → k ≠ d → (wr.setCell ⟨d, 8, none⟩ (.map (some F))).heap[k]? = w.heap[k]? := fun k hk hn => hf.block k (h.lt k hk) hn
  have hbs := h.names.lt b hnm
  have hnames := h.names
  rw [hnm] at hnames
  refine ⟨{ nm := R.nm, fm := some w.heap.size, fb := some F, lv := .slice none 0 0, rc := R.rc, FD := Dout }, ⟨?_, hf.mono (fun k _ hk => .inl hk), fun k hk => ?_⟩, b, F, hnm, rfl⟩
  · exact {
      blk := hbk.set_ 8 _
      names := h.names.of fun b hb => ne _ (.inr (.inl hb)) (fun e => a1 (e ▸ hb))
      firm := owns_of hfm (Below.heap_setCell _ _ _ _ (by simp; omega))
      files := owns_tight (owns_of hout (Below.heap_setCell _ _ _ _ (by simp; omega)))
      loose := World.ownsRow_nil _ 0 114 3
      fd := fun n => by
        show FileAt _ _ n (if keeps S.names n then S.file n else none)
        have hFn := hF n
        rw [kept_end hl] at hFn
        cases hk : keeps S.names n with
        | false =>
          rw [hk] at hFn
          exact hFn.1
        | true =>
          rw [hk] at hFn
          obtain ⟨l, hlk⟩ := keeps_ref (b := b) hnames hk
          obtain ⟨r, hr⟩ := hW l n hlk
          have hfd := h.fd n
          rw [hr] at hfd
          simp only [if_true]
          rw [hr]
          obtain ⟨_, g2, g3⟩ := hfd
          exact ⟨hFn.2 rfl, g2.of (ne _ (.inr (.inr (.inr (.inr (.inr ⟨n, r, hr, .inl rfl⟩))))) (a5 n r hr).1), own_of g3 fun k hk => ne _ (.inr (.inr (.inr (.inr (.inr ⟨n, r, hr, .inr hk⟩))))) (fun e => (a5 n r hr).2 (e ▸ hk))⟩
      ne1 := fun k hk e => by
        have e1 : R.nm = some k := hk
        have e2 : some w.heap.size = some k := e
        have := Option.some.inj e2
        have := h.names.lt k e1
        omega
      ne2 := fun k hk e => by
        have e1 : R.nm = some k := hk
        have e2 : some F = some k := e
        have := Option.some.inj e2
        have := h.names.lt k e1
        omega
      ne3 := fun k hk e => by
        have e1 : some w.heap.size = some k := hk
        have e2 : some F = some k := e
        have := Option.some.inj e2
        have := Option.some.inj e1
        omega
      ap := fun n1 n2 r1 r2 hne h1 h2 => by
        have h1' : (if keeps S.names n1 then S.file n1 else none) = some r1 := h1
        have h2' : (if keeps S.names n2 then S.file n2 else none) = some r2 := h2
        split at h1' <;> split at h2' <;> first | exact h.ap n1 n2 r1 r2 hne h1' h2' | cases h1' | cases h2'
      onn := fun _ => ⟨b, F, hnm, rfl⟩ }
  · rcases hk with hk | hk | hk | hk | hk | ⟨n, r, hr, hk⟩
    · exact .inl (.inl hk)
    · exact .inl (.inr (.inl hk))
    · exact .inr (by have := Option.some.inj hk; omega)
    · exact .inr (by have := Option.some.inj hk; omega)
    · simp [Value.ownBlock] at hk
    · have hr' : (if keeps S.names n then S.file n else none) = some r := hr
      split at hr'
      · exact .inl (.inr (.inr (.inr (.inr (.inr ⟨n, r, hr', hk⟩)))))
      · cases hr'

set_option maxRecDepth 100000 in
set_option maxHeartbeats 4000000 in
theorem settle_any (d : Nat) (R : Rp) (S : AS) (b : Nat) (w : World) (h : At w d R S) (hW : ∀ l n, look S.names l = some n → ∃ r, S.file n = some r) (hnm : R.nm = some b) (hsz : Maps.size S.names ≤ 1000000) :
    Calls Tryz.prog 58 #[.pointer (some ⟨d, 0, none⟩)] w fun e w' => e = .returned (.tuple #[]) ∧ ∃ R', PR d R S w R' S.settled w' ∧ ∃ b c, R'.nm = some b ∧ R'.fb = some c := by
  have c5 := (cells_all h).2.2.2.2.2.1
  rw [hnm] at c5
  have hown := h.names
  rw [hnm] at hown
  have hmm := @run_makeMap Tryz.prog
  go_enter Tryz.func58, Tryz.ntmps58
  go_wp2_with fail
  refine (clone_owns _ b _ _ w hown).mono ?_
  rintro e w1 ⟨rfl, ho1, ho2, hb1⟩
  have h1 := h.below hb1
  have d5 := (cells_all h1).2.2.2.2.2.1
  rw [hnm] at d5
  have d6 := (cells_all h1).2.2.2.2.2.2.1
  have d7 := (cells_all h1).2.2.2.2.2.2.2.1
  have z6 := h1.blk.frozen 6
  have z7 := h1.blk.frozen 7
  have hbd : b ≠ d := fun e => h.apart.1 (e ▸ hnm)
  have hr2 : (((w1.setCell ⟨d, 6, none⟩ (.map (some w.heap.size))).setCell ⟨d, 7, none⟩ (.slice none 0 0)).alloc (.map #[] 0)).ownsMap Tryz.prog 9 (plainElem Tryz.prog 3) b (Maps.size S.names) S.names :=
    ((World.ownsMap.setCell (World.ownsMap.setCell ho2 (a := ⟨d, 6, none⟩) hbd _) (a := ⟨d, 7, none⟩) hbd _)).alloc _
  have hsz2 : (((w1.setCell ⟨d, 6, none⟩ (.map (some w.heap.size))).setCell ⟨d, 7, none⟩ (.slice none 0 0)).alloc (.map #[] 0)).heap.size = w1.heap.size + 1 := by simp [World.setCell]
  have HSZ := Lib.hid hsz2
  clear hsz2
  have H := Lib.hid h
  have H1 := Lib.hid h1
  have HO1 := Lib.hid ho1
  have HB1 := Lib.hid hb1
  have HR2 := Lib.hid hr2
  have HNM := Lib.hid hnm
  have HWF := Lib.hid hW
  have hdl := h1.blk.lt
  clear h h1 ho1 ho2 hb1 hown c5 hbd hr2 hnm hW
  go_wp2_with (first
    | (at_range; refine wpList_range_own _ rfl _ 100 rfl 9 3 law9 Tryz.underlying100 (plainElem Tryz.prog 3) b _ _ rfl HR2.out ?_; intro w0 hrg0 hg0 hs0; rw [HSZ.out] at hrg0 hs0 ⊢)
    | go_in)
  have hW2 : Fr (One d) w w0 := ((((Fr.of_below HB1.out).any.trans (((Fr.set0 d w1 6 _).set1 7 _).alloc _) fun _ _ hj => hj)).grown hg0 fun k hk => by cases hk)
  have hB2 : Blk w0 d 109 #[.int .i64 S.room, .bool S.on, .bool S.armed, .int .i64 S.left, .int .i64 S.steps, .map R.nm, .map (some w.heap.size), .slice none 0 0, .map R.fb, .int .i64 S.last] := by
    have q := (H1.out.blk.set_ 6 (.map (some w.heap.size))).set_ 7 (.slice none 0 0)
    exact Blk.of q ((hg0.block d (by simp [World.setCell]; omega) (by simp)).trans (Below.heap_alloc _ _ d (by simp [World.setCell]; omega)))
  have hM2 : w0.ownsMap Tryz.prog 3 ptrElem w1.heap.size 0 (.map []) := by
    have q := World.ownsMap_made (H := Unit) ((w1.setCell ⟨d, 6, none⟩ (.map (some w.heap.size))).setCell ⟨d, 7, none⟩ (.slice none 0 0)) Tryz.prog 3 ptrElem
    have e : ((w1.setCell ⟨d, 6, none⟩ (.map (some w.heap.size))).setCell ⟨d, 7, none⟩ (.slice none 0 0)).heap.size = w1.heap.size := by simp [World.setCell]
    rw [e] at q
    exact q.kept hg0 (by simp)
  have hC : Canon S.names := by
    have := H.out.names
    rw [HNM.out] at this
    exact World.ownsMap.canon (b := b) this law9
  have hFm : w0.ownsMap Tryz.prog 9 (plainElem Tryz.prog 3) w.heap.size (Maps.size S.names) S.names := by
    have hfd : w.heap.size ≠ d := by have := H.out.blk.lt; omega
    exact (World.ownsMap.setCell (World.ownsMap.setCell HO1.out (a := ⟨d, 6, none⟩) hfd _) (a := ⟨d, 7, none⟩) hfd _).alloc _ |>.kept hg0 (by simp)
  have HC := Lib.hid hC
  have HFM := Lib.hid hFm
  have HW2 := Lib.hid hW2
  have HB2 := Lib.hid hB2
  have HM2 := Lib.hid hM2
  clear hW2 hB2 hM2 hC hFm d5 d6 d7 z6 z7
  have hws := HO1.out.lt
  have hb1s := H.out.names.lt b HNM.out
  go_frame
  go_loopw [4] (fun _ wr => ∃ (left : Lit → Bool) (cnt : Nat) (Dout : DU), wr.ranges Tryz.prog 9 (plainElem Tryz.prog 3) b (w1.heap.size + 1) (Maps.size S.names) S.names left cnt ∧ cnt ≤ Maps.size S.names ∧ wr.ownsMap Tryz.prog 3 ptrElem w1.heap.size (Maps.size S.names - cnt) Dout ∧ Files R S.names Dout left ∧
      Fr (One d) w wr ∧ Blk wr d 109 #[.int .i64 S.room, .bool S.on, .bool S.armed, .int .i64 S.left, .int .i64 S.steps, .map R.nm, .map (some w.heap.size), .slice none 0 0, .map R.fb, .int .i64 S.last] ∧ wr.ownsMap Tryz.prog 9 (plainElem Tryz.prog 3) w.heap.size (Maps.size S.names) S.names)
    (fun _ wr => wr.rangeLeft b (w1.heap.size + 1))
  case atStart =>
    exact ⟨_, _, .map [], hrg0, Nat.le_refl _, by simpa using HM2.out, fun n => ⟨by rw [kept_start HC.out]; rfl, fun hk => by rw [kept_start HC.out] at hk; cases hk⟩, HW2.out, HB2.out, HFM.out⟩
  case round =>
    obtain ⟨left, cnt, Dout, hrg, hcs, hout, hF, hfr, hbk, hfm⟩ := hrel
    have HF := Lib.hid hF
    have HFR := Lib.hid hfr
    have HBK := Lib.hid hbk
    have HOUT := Lib.hid hout
    have HFM2 := Lib.hid hfm
    have HRG := Lib.hid hrg
    clear hF hfr hbk hout hfm hrg hrg0 hg0 hmm HW2 HB2 HM2 HFM HR2
    go_wp2_with (first
      | (at_next; refine wpList_next_ranges _ rfl _ rfl 9 law9 (plainElem Tryz.prog 3) id (Value.int .i64) (fun key _ _ => ⟨key, rfl⟩) (fun v y hv => by obtain ⟨c, rfl, _⟩ := plainElem_int_inv Tryz.underlying3 hv; exact ⟨c, rfl⟩) b (w1.heap.size + 1) _ _ _ _ rfl HRG.out ?_ ?_)
      | go_in)
    · intro hc0 hl0
      have k8 := HBK.out.cell 8
      have z8 := HBK.out.frozen 8
      go_wp2
      go_end0
      exact ⟨rfl, settle_end H.out HWF.out HNM.out HFR.out HBK.out HOUT.out HF.out hl0 HFM2.out hws⟩
    · intro x c kl yl yp w3 cnt1 hkey hlx hv hat hrg1 hlt hg1 hs1 hen
      obtain ⟨c', ec, ey, hwc⟩ := plainElem_int_inv Tryz.underlying3 hv
      cases ec
      cases ey
      obtain ⟨sk, rfl⟩ := key_string hkey
      have hlk : look S.names sk = some c := by unfold look; rw [hat .nil]
      obtain ⟨r, hr⟩ := HWF.out sk c hlk
      have hbs := HBK.out.lt
      have hbk3 : Blk w3 d 109 #[.int .i64 S.room, .bool S.on, .bool S.armed, .int .i64 S.left, .int .i64 S.steps, .map R.nm, .map (some w.heap.size), .slice none 0 0, .map R.fb, .int .i64 S.last] := HBK.out.of (hg1.block d hbs (by intro e; have := Option.some.inj e; omega))
      have hfr3 : Fr (One d) w w3 := HFR.out.grown hg1 (fun k hk hkl => by have := Option.some.inj hk; omega)
      obtain ⟨fb, hfbe⟩ := H.out.fbs hr
      have hfl := H.out.files
      rw [hfbe] at hfl
      have hfbd : fb ≠ d := fun e => H.out.apart.2.2.1 (e ▸ hfbe)
      have hfl3 : w3.ownsMap Tryz.prog 3 ptrElem fb (Maps.size R.FD) R.FD := owns_of (b := fb) hfl (hfr3.block fb (World.ownsMap.lt (b := fb) hfl) hfbd)
      have hfd := H.out.fd c
      rw [hr] at hfd
      have hrun2 := run_file (b := fb) hfl3 hwc hfd.1
      have k8 := hbk3.cell 8
      simp only [hfbe] at k8
      have hout3 := HOUT.out.kept hg1 (by intro e; have := Option.some.inj e; omega)
      have hfm3 := HFM2.out.kept hg1 (by intro e; have := Option.some.inj e; omega)
      have hroom : Maps.size S.names - cnt < maxLen := by unfold maxLen; omega
      have hk3 := key3 c hwc
      have hF3 := HF.out.step HC.out HOUT.out.isMap (isKey sk) hat
      have HF3 := Lib.hid hF3
      have HO3 := Lib.hid hout3
      have HFM3 := Lib.hid hfm3
      have HR3 := Lib.hid hrg1
      have HBK3 := Lib.hid hbk3
      have HFR3 := Lib.hid hfr3
      have HK3 := Lib.hid hk3
      clear hF3 hout3 hfm3 hrg1 hbk3 hfr3 hk3 hfl3 hfl hfd hfbe hr hlk hv hat hkey hlx hg1 hs1 hwc HF HOUT HFM2 HFR HBK
      go_wp2_with (first
        | (at_mapUpdate; refine wpList_mapUpdate_own _ rfl _ _ _ 101 rfl 3 117 law3 Tryz.underlying101 ptrElem w1.heap.size _ Dout rfl HO3.out hroom _ _ (.int .i64 c) rfl rfl HK3.out (.lit (.int .i64 (R.rc c).1)) [] (ptrElem_mk _) ?_; intro w4 hown4 hg4; go_frame)
        | go_in)
      go_roundw
      case rel =>
        have hne1 : (some b : Option Nat) ≠ some w1.heap.size := by intro e; cases e; omega
        have hne2 : (some (w1.heap.size + 1) : Option Nat) ≠ some w1.heap.size := by intro e; have := Option.some.inj e; omega
        have hbs3 := HBK3.out.lt
        exact ⟨_, cnt1, _, HR3.out.kept hg4 hne1 hne2, by omega, hown4.mono (by omega), HF3.out, HFR3.out.grown hg4 (fun k hk hkl => by have := Option.some.inj hk; omega), HBK3.out.of (hg4.block d hbs3 (by intro e; have := Option.some.inj e; have := H.out.blk.lt; omega)), HFM3.out.kept hg4 (by intro e; have := Option.some.inj e; omega)⟩
      case measure => rw [(HR3.out.kept hg4 (by intro e; have := Option.some.inj e; omega) (by intro e; have := Option.some.inj e; omega)).left_eq, HRG.out.left_eq]; exact hlt

end Go.Proofs.YtikpojnmaiplnaaGreatDoor
/- Picks, and what a crash leaves of one file. -/
namespace Go.Proofs.YtikpojnmaiplnaaGreatDoor
open Go.RowKit Go.Maps Go.Sort
set_option linter.unusedVariables false

/-- A list of picks, lying in block g. -/
structure PicksAt (w : World) (g : Nat) (A : Option Addr) (n c : Nat) (ps : List Int) : Prop where
  len : n = ps.length
  cap : n ≤ c ∧ c ≤ 9223372036854775807
  rng : ∀ p ∈ ps, -9223372036854775808 ≤ p ∧ p ≤ 9223372036854775807
  at_ : 0 < n → ∃ off, A = some ⟨g, off, none⟩ ∧ ∀ j (hj : j < ps.length), w.cell? ⟨g, off + j, none⟩ = some (.int .i64 ps[j])

theorem PicksAt.of {w w' : World} {g : Nat} {A : Option Addr} {n c : Nat} {ps : List Int} (h : PicksAt w g A n c ps) (hk : 0 < n → w'.heap[g]? = w.heap[g]?) : PicksAt w' g A n c ps :=
  ⟨h.len, h.cap, h.rng, fun hn => by
    obtain ⟨off, e, hc⟩ := h.at_ hn
    exact ⟨off, e, fun j hj => (World.cell?_of_block (w := w) (hk hn)).trans (hc j hj)⟩⟩
theorem PicksAt.lt {w : World} {g : Nat} {A : Option Addr} {n c : Nat} {ps : List Int} (h : PicksAt w g A n c ps) (hn : 0 < n) : g < w.heap.size := by
  obtain ⟨off, e, hc⟩ := h.at_ hn
  exact World.block_lt_of_cell? w _ (hc 0 (by have := h.len; omega))
theorem PicksAt.nil {w : World} {g c : Nat} {A : Option Addr} (hc : c ≤ 9223372036854775807) : PicksAt w g A 0 c [] := ⟨rfl, ⟨Nat.zero_le _, hc⟩, by simp, fun h => absurd h (by omega)⟩
theorem PicksAt.fr {F : Nat → Prop} {w w' : World} {g : Nat} {A : Option Addr} {n c : Nat} {ps : List Int} (h : PicksAt w g A n c ps) (hf : Fr F w w') (hg : 0 < n → ¬ F g) : PicksAt w' g A n c ps :=
  h.of fun hn => hf.block g (h.lt hn) (hg hn)

def pickN (ps : List Int) (most : Int) : Int := match ps with | [] => 0 | p :: _ => pickOf p % (most + 1)
theorem pickN_bd (ps : List Int) (most : Int) (h : 0 ≤ most) : 0 ≤ pickN ps most ∧ pickN ps most ≤ most := by
  unfold pickN
  cases ps with
  | nil => simp; omega
  | cons p t =>
    have h1 := Int.emod_nonneg (pickOf p) (show most + 1 ≠ 0 by omega)
    have h2 := Int.emod_lt_of_pos (pickOf p) (show 0 < most + 1 by omega)
    simp only
    omega

theorem pick_any (g : Nat) (A : Option Addr) (n c : Nat) (ps : List Int) (most : Int) (w : World) (h : PicksAt w g A n c ps) (hm0 : 0 ≤ most) (hm1 : most < 9223372036854775807) :
    Calls Tryz.prog 53 #[.slice A n c, .int .i64 most] w fun e w' => ∃ A' n' c' k, e = .returned (.tuple #[.int .i64 (pickN ps most), .slice A' n' c']) ∧ w' = w.drewN k ∧ PicksAt w g A' n' c' ps.tail := by
  cases ps with
  | nil =>
    have hn : n = 0 := h.len
    subst hn
    refine (pick_none A c most w).mono ?_
    rintro e w' ⟨rfl, rfl⟩
    exact ⟨none, 0, 0, 0, rfl, rfl, PicksAt.nil (by omega)⟩
  | cons p t =>
    have hn : n = t.length + 1 := by simpa using h.len
    obtain ⟨off, rfl, hc⟩ := h.at_ (by omega)
    have hp := h.rng p (by simp)
    have h0 := hc 0 (by simp)
    refine (pick_some ⟨g, off, none⟩ n c p most w (by omega) h.cap.1 h.cap.2 (by simpa using h0) hp.1 hp.2 hm0 hm1).mono ?_
    rintro e w' ⟨rfl, k, rfl⟩
    refine ⟨_, _, _, k, rfl, rfl, ⟨by simp [hn], ⟨by have := h.cap; omega, by have := h.cap; omega⟩, fun q hq => h.rng q (by simp [List.mem_of_mem_tail (l := p :: t) hq] ), fun hn' => ?_⟩⟩
    have hc1 : c ≠ 1 := by have := h.cap; omega
    refine ⟨off + 1, by rw [if_neg hc1]; simp [Addr.add], fun j hj => ?_⟩
    have := hc (j + 1) (by simpa using hj)
    rw [show off + 1 + j = off + (j + 1) by omega]
    simpa using this

/-- A file behind a crash, and the picks that are left. -/
def FR.crash (r : FR) (ps : List Int) : FR :=
  if r.firm < r.bytes.length then { bytes := r.bytes.take (r.firm + (pickN ps (r.bytes.length - r.firm)).toNat), firm := r.firm + (pickN ps (r.bytes.length - r.firm)).toNat }
  else { bytes := r.bytes, firm := r.bytes.length }
def FR.rest (r : FR) (ps : List Int) : List Int := if r.firm < r.bytes.length then ps.tail else ps

theorem fcrash_end {w w2 : World} {k gr vc N : Nat} {r : FR} {ps : List Int} {T : Int} (hb : Blk w k 126 #[.slice (some ⟨gr, 0, none⟩) r.bytes.length vc, .int .i64 r.firm]) (ho : w.ownsRow 0 5 1 (.slice (some ⟨gr, 0, none⟩) r.bytes.length vc) r.bytes.length (r.bytes.map byteV))
    (hT : pickN ps ((r.bytes.length : Int) - r.firm) = T) (hw : w2 = w.drewN N) (ht : r.firm < r.bytes.length) (ht0 : 0 ≤ T) (ht1 : T ≤ (r.bytes.length : Int) - r.firm) :
    Fr (One k) w (((w2.setCell ⟨k, 0, none⟩ (.slice (some ⟨gr, 0, none⟩) ((r.firm : Int) + T).toNat vc)).setCell ⟨k, 1, none⟩ (.int .i64 (max ((r.firm : Int) + T) 0))).drew) ∧
    Blk (((w2.setCell ⟨k, 0, none⟩ (.slice (some ⟨gr, 0, none⟩) ((r.firm : Int) + T).toNat vc)).setCell ⟨k, 1, none⟩ (.int .i64 (max ((r.firm : Int) + T) 0))).drew) k 126 #[.slice (some ⟨gr, 0, none⟩) ((r.firm : Int) + T).toNat vc, .int .i64 (r.crash ps).firm] ∧
    (((w2.setCell ⟨k, 0, none⟩ (.slice (some ⟨gr, 0, none⟩) ((r.firm : Int) + T).toNat vc)).setCell ⟨k, 1, none⟩ (.int .i64 (max ((r.firm : Int) + T) 0))).drew).ownsRow 0 5 1 (.slice (some ⟨gr, 0, none⟩) ((r.firm : Int) + T).toNat vc) (r.crash ps).bytes.length ((r.crash ps).bytes.map byteV) := by
  subst hw
  have e1 : ((r.firm : Int) + T).toNat = r.firm + T.toNat := by omega
  have e2 : max ((r.firm : Int) + T) 0 = ((r.firm + T.toNat : Nat) : Int) := by omega
  have e3 : r.crash ps = { bytes := r.bytes.take (r.firm + T.toNat), firm := r.firm + T.toNat } := by unfold FR.crash; rw [if_pos ht, hT]
  rw [e1, e2, e3]
  have hkg : gr ≠ k := own_blk_ne ho rfl hb (by decide)
  have hl : (r.bytes.take (r.firm + T.toNat)).length = r.firm + T.toNat := by rw [List.length_take]; omega
  refine ⟨((((Fr.refl _ w).drewN N).set1 0 _).set1 1 _).drew, ?_, ?_⟩
  · have hb' : Blk (w.drewN N) k 126 #[.slice (some ⟨gr, 0, none⟩) r.bytes.length vc, .int .i64 r.firm] := hb
    exact (hb'.set_ 0 _).set_ 1 _
  · rw [hl, List.map_take]
    refine own_of (own_take ho (r.firm + T.toNat) (by omega)) (fun j hj => ?_)
    have : j = gr := by simpa [Value.ownBlock] using hj.symm
    subst this
    exact (Below.heap_setCell _ _ _ _ hkg).trans (Below.heap_setCell _ _ _ _ hkg)

set_option maxRecDepth 100000 in
set_option maxHeartbeats 2000000 in
theorem fcrash_some (k : Nat) (v : Value) (r : FR) (g : Nat) (A : Option Addr) (n c : Nat) (ps : List Int) (w : World) (hb : Blk w k 126 #[v, .int .i64 r.firm]) (ho : w.ownsRow 0 5 1 v r.bytes.length (r.bytes.map byteV)) (hlen : r.bytes.length ≤ 16777216)
    (hp : PicksAt w g A n c ps) (ht : r.firm < r.bytes.length) :
    Calls Tryz.prog 57 #[.pointer (some ⟨k, 0, none⟩), .slice A n c] w fun e w' => ∃ A' n' c' v', e = .returned (.slice A' n' c') ∧ PicksAt w g A' n' c' ps.tail ∧
      Fr (One k) w w' ∧ Blk w' k 126 #[v', .int .i64 (r.crash ps).firm] ∧ w'.ownsRow 0 5 1 v' (r.crash ps).bytes.length ((r.crash ps).bytes.map byteV) ∧ v'.ownBlock = v.ownBlock := by
  obtain ⟨vA, vc, rfl⟩ := len_row ho
  have c0 : w.cell? ⟨k, 0, none⟩ = some (.slice vA r.bytes.length vc) := hb.cell 0
  have c1 : w.cell? ⟨k, 1, none⟩ = some (.int .i64 r.firm) := hb.cell 1
  have z0 := hb.frozen 0
  have z1 := hb.frozen 1
  have e1 : IntKind.i64.wrap ((r.bytes.length : Int) - r.firm) = (r.bytes.length : Int) - r.firm := IntWalk.i64_in _ (by omega)
  obtain ⟨gr, hvA, hvc, hvm⟩ : ∃ gr, vA = some ⟨gr, 0, none⟩ ∧ r.bytes.length ≤ vc ∧ vc ≤ 9223372036854775807 := by
    rcases ho.2 with ⟨_, h0⟩ | ⟨gr, cap, cur, e, _, _, h1, h2, _⟩
    · omega
    · cases e; exact ⟨gr, rfl, h1, by unfold maxLen at h2; omega⟩
  subst hvA
  obtain ⟨ht0, ht1⟩ := pickN_bd ps ((r.bytes.length : Int) - r.firm) (by omega)
  generalize hT : pickN ps ((r.bytes.length : Int) - r.firm) = T at *
  have e2 : IntKind.i64.wrap ((r.firm : Int) + T) = (r.firm : Int) + T := IntWalk.i64_in _ (by omega)
  have HB := Lib.hid hb
  have HO := Lib.hid ho
  have HP := Lib.hid hp
  have HT := Lib.hid hT
  have HE2 := Lib.hid e2
  clear hb ho hp hT e2
  go_enter Tryz.func57, Tryz.ntmps57
  go_wp2_with fail
  go_quiet (fail)
  go_wp2_with fail
  clear e1
  have hpk := pick_any g A n c ps ((r.bytes.length : Int) - r.firm) (w.drewN nq) (HP.out.of (fun _ => rfl)) (by omega) (by omega)
  refine hpk.mono ?_
  rintro e w2 ⟨A', n', c', kk, rfl, hw2, hp2⟩
  rw [HT.out]
  have HP2 := Lib.hid hp2
  have d0 : w2.cell? ⟨k, 0, none⟩ = some (.slice (some ⟨gr, 0, none⟩) r.bytes.length vc) := by rw [hw2]; exact c0
  have d1 : w2.cell? ⟨k, 1, none⟩ = some (.int .i64 r.firm) := by rw [hw2]; exact c1
  have y0 : w2.frozen? ⟨k, 0, none⟩ = false := by rw [hw2]; exact z0
  have y1 : w2.frozen? ⟨k, 1, none⟩ = false := by rw [hw2]; exact z1
  have HW2 := Lib.hid hw2
  clear hp2 hw2 c0 c1 z0 z1 hpk
  go_wp2_with fail
  have b1 : (0 : Int) ≤ (r.firm : Int) + T := by omega
  have b2 : (r.firm : Int) + T ≤ (vc : Int) := by omega
  have e2 := HE2.out
  go_still_tail 12, (by kernel_rfl)
  change wpList _ _ _ _ _ (World.drew _)
  go_wp2
  go_ret
  obtain ⟨q1, q2, q3⟩ := fcrash_end HB.out HO.out HT.out (HW2.out.trans (World.drewN_drewN _ _ _)) ht ht0 ht1
  exact ⟨A', n', c', _, rfl, PicksAt.of (w := w.drewN nq) HP2.out (fun hn => rfl), q1, q2, q3, rfl⟩


set_option maxRecDepth 100000 in
set_option maxHeartbeats 2000000 in
theorem fcrash_none (k : Nat) (v : Value) (r : FR) (A : Option Addr) (n c : Nat) (w : World) (hb : Blk w k 126 #[v, .int .i64 r.firm]) (ho : w.ownsRow 0 5 1 v r.bytes.length (r.bytes.map byteV)) (hlen : r.bytes.length ≤ 16777216)
    (ht : ¬ r.firm < r.bytes.length) (hfl : r.firm ≤ r.bytes.length) :
    Calls Tryz.prog 57 #[.pointer (some ⟨k, 0, none⟩), .slice A n c] w fun e w' => e = .returned (.slice A n c) ∧
      Fr (One k) w w' ∧ Blk w' k 126 #[v, .int .i64 r.bytes.length] ∧ w'.ownsRow 0 5 1 v r.bytes.length (r.bytes.map byteV) := by
  obtain ⟨vA, vc, rfl⟩ := len_row ho
  have c0 : w.cell? ⟨k, 0, none⟩ = some (.slice vA r.bytes.length vc) := hb.cell 0
  have c1 : w.cell? ⟨k, 1, none⟩ = some (.int .i64 r.firm) := hb.cell 1
  have z0 := hb.frozen 0
  have z1 := hb.frozen 1
  have e1 : IntKind.i64.wrap ((r.bytes.length : Int) - r.firm) = (r.bytes.length : Int) - r.firm := IntWalk.i64_in _ (by omega)
  have t1 : decide ((0 : Int) < (r.bytes.length : Int) - r.firm) = false := by simp; omega
  have HB := Lib.hid hb
  have HO := Lib.hid ho
  clear hb ho
  go_enter Tryz.func57, Tryz.ntmps57
  go_wp2_with fail
  go_quiet (fail)
  clear e1
  go_wp2
  go_ret
  have hb' : Blk (w.drewN nq) k 126 #[.slice vA r.bytes.length vc, .int .i64 r.firm] := HB.out
  refine ⟨rfl, ((Fr.refl _ w).drewN nq).set1 1 _, hb'.set_ 1 _, own_of HO.out (fun j hj => Below.heap_setCell _ _ _ _ (own_blk_ne HO.out hj HB.out (by decide)))⟩

/-- A file's crash, whatever is loose. -/
theorem fcrash_any (k : Nat) (v : Value) (r : FR) (g : Nat) (A : Option Addr) (n c : Nat) (ps : List Int) (w : World) (hb : Blk w k 126 #[v, .int .i64 r.firm]) (ho : w.ownsRow 0 5 1 v r.bytes.length (r.bytes.map byteV)) (hlen : r.bytes.length ≤ 16777216) (hfl : r.firm ≤ r.bytes.length)
    (hp : PicksAt w g A n c ps) (hgk : 0 < n → g ≠ k) :
    Calls Tryz.prog 57 #[.pointer (some ⟨k, 0, none⟩), .slice A n c] w fun e w' => ∃ A' n' c' v', e = .returned (.slice A' n' c') ∧ PicksAt w' g A' n' c' (r.rest ps) ∧
      Fr (One k) w w' ∧ Blk w' k 126 #[v', .int .i64 (r.crash ps).firm] ∧ w'.ownsRow 0 5 1 v' (r.crash ps).bytes.length ((r.crash ps).bytes.map byteV) ∧ v'.ownBlock = v.ownBlock := by
  by_cases ht : r.firm < r.bytes.length
  · rw [show r.rest ps = ps.tail from by unfold FR.rest; rw [if_pos ht]]
    refine (fcrash_some k v r g A n c ps w hb ho hlen hp ht).mono ?_
    rintro e w' ⟨A', n', c', v', he, hp', hf, h1, h2, h3⟩
    exact ⟨A', n', c', v', he, hp'.of fun hn => by
      have h0 : 0 < n := by have a := hp'.len; have b := hp.len; have := List.length_tail (l := ps); omega
      exact hf.block g (hp.lt h0) (hgk h0), hf, h1, h2, h3⟩
  · rw [show r.rest ps = ps from by unfold FR.rest; rw [if_neg ht], show r.crash ps = { bytes := r.bytes, firm := r.bytes.length } from by unfold FR.crash; rw [if_neg ht]]
    refine (fcrash_none k v r A n c w hb ho hlen ht hfl).mono ?_
    rintro e w' ⟨he, hf, h1, h2⟩
    exact ⟨A, n, c, v, he, hp.fr hf hgk, hf, h1, h2, rfl⟩

end Go.Proofs.YtikpojnmaiplnaaGreatDoor
