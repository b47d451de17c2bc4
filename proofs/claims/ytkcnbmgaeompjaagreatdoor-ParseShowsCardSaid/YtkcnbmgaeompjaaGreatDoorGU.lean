/- Texts of lists: what is joined. -/
import Derived.Test.YtkcnbmgaeompjaaGreatDoorGT
import Derived.Test.YtkcnbmgaeompjaaGreatDoorXS3
import Derived.Test.YtkcnbmgaeompjaaGreatDoorXS4
import Derived.Deep.RegionHeld
namespace Go.Proofs.YtkcnbmgaeompjaaGreatDoor
open Go.RowKit Go.Maps
set_option linter.unusedVariables false

/-- A builder in block b, its row behind it. -/
def Bd (w : World) (b : Nat) (l : Tx) : Prop := Lib.IsBuilderF 114 5 b b (Lib.byteCells l) w
theorem BuilderAtF_keep {B b : Nat} {p : Value} {bs : List Value} {w w' : World} (h : Lib.BuilderAtF 114 5 B b p bs w) (hf : Fr No w w') : Lib.BuilderAtF 114 5 B b p bs w' := by
  obtain ⟨h0, v, hb, ho, hne⟩ := h
  refine ⟨h0, v, ?_, ⟨ho.1, ?_⟩, hne⟩
  · rw [hf.block b (Array.getElem?_eq_some_iff.1 hb).1 id]; exact hb
  · rcases ho.2 with hn | ⟨g, cap, cur, fz, hv, hB, hg, rest⟩
    · exact .inl hn
    · refine .inr ⟨g, cap, cur, fz, hv, hB, ?_, rest⟩
      rw [hf.block g (Array.getElem?_eq_some_iff.1 hg).1 id]; exact hg
theorem Bd.keep {w w' : World} {b : Nat} {l : Tx} (h : Bd w b l) (hf : Fr No w w') : Bd w' b l :=
  h.elim (fun x => .inl (BuilderAtF_keep x hf)) fun x => .inr (BuilderAtF_keep x hf)
theorem Bd.lt {w : World} {b : Nat} {l : Tx} (h : Bd w b l) : b < w.heap.size := h.elim Lib.BuilderAtF.lt Lib.BuilderAtF.lt
theorem Bd.new (w : World) : Bd (w.alloc (.cells #[.pointer none, .slice none 0 0] 114)) w.heap.size [] := Lib.IsBuilderF.of (Lib.fresh_isBuilder 114 5 w)
theorem write_any (b : Nat) (l B : Tx) (w : World) (h : Bd w b l) (hl : l.length + B.length ≤ 140737488355328) : Calls Tryz.prog 81 #[.pointer (some ⟨b, 0, none⟩), sv B] w fun e w' => (∃ n, e = .returned (.tuple #[.int .i64 n, .nilIface])) ∧ Bd w' b (l ++ B) ∧ Below b w w' := by
  have hsz : (ByteArray.mk B.toArray).size = B.length := sz B
  refine (Tryz.Builder_WriteString_k b b (Lib.byteCells l) ⟨B.toArray⟩ w h (by rw [Lib.byteCells_length, hsz]; omega) (Nat.le_of_lt h.lt)).mono ?_
  rintro e w' ⟨rfl, hb, hbl, _⟩
  refine ⟨⟨_, rfl⟩, ?_, hbl⟩
  unfold Bd
  rw [Lib.byteCells_append]
  exact .inr hb
/-- A call that tells a text, and makes memory alone. -/
def TellsT (t : Tx) (w : World) (e : Ending) (w' : World) : Prop := e = .returned (sv t) ∧ Fr No w w'
def jn (l : List Tx) : Tx := Lib.join l [44, 32]
theorem join_any {K : Nat → Prop} {l : List Tx} {v : Value} (w : World) (h : RowE K w 1 (strG K w) v l) (hl : l.length ≤ 100000) (hlen : (jn l).length ≤ 140737488355328) : Calls Tryz.prog 131 #[v, sv [44, 32]] w (TellsT (jn l) w) := by
  obtain ⟨A, c, rfl, hlc, hcm, hrow⟩ := h
  cases l with
  | nil =>
    refine (Tryz.strings_Join_none A c ⟨#[44, 32]⟩ w).mono ?_
    rintro e w' ⟨rfl, rfl⟩
    exact ⟨rfl, Fr.refl _ _⟩
  | cons x l =>
    obtain ⟨g, off, rfl, hK, hg, hel⟩ := hrow (by simp)
    have hm : ((x :: l).map fun t => (⟨t.toArray⟩ : ByteArray)).length = (x :: l).length := by simp
    have hmm : ((x :: l).map fun t => (⟨t.toArray⟩ : ByteArray)).map (·.data.toList) = x :: l := by simp [Function.comp_def]
    have := Tryz.strings_Join g off c ((x :: l).map fun t => (⟨t.toArray⟩ : ByteArray)) ⟨#[44, 32]⟩ w (fun j y hj => ?_) hg (by rw [hm]; omega) (by rw [hm]; exact hlc) (by rw [hmm]; exact hlen)
    · rw [hm, hmm] at this
      refine this.mono ?_
      rintro e w' ⟨rfl, hb⟩
      exact ⟨rfl, Fr.of_below hb⟩
    · rw [List.getElem?_map] at hj
      obtain ⟨t, ht, rfl⟩ := Option.map_eq_some_iff.1 hj
      obtain ⟨hjl, rfl⟩ := List.getElem?_eq_some_iff.1 ht
      obtain ⟨cs, hcl, hcs, hE⟩ := hel j hjl
      have := hcs 0 (by decide)
      rw [hE.1] at this
      simpa using this
theorem cat_any (l m : Tx) (h : l.length + m.length ≤ 9223372036854775807) (w : World) : (Op.stringOp .add ⟨l.toArray⟩ ⟨m.toArray⟩).run Tryz.prog w = .ok (sv (l ++ m)) w := run_cat l m h w
end Go.Proofs.YtkcnbmgaeompjaaGreatDoor
/- Texts of a query's parts, walked. -/
namespace Go.Proofs.YtkcnbmgaeompjaaGreatDoor
open Go.RowKit Go.Maps
set_option linter.unusedVariables false

def itemT (i : It) : Tx := txt [] (itemP [] i)
theorem itemT1 (t : Tx) : itemT ⟨1, t⟩ = t := by
  show txt [] [sw [] 1 t] = t
  simp [txt, sw]
theorem itemT2 (t : Tx) : itemT ⟨2, t⟩ = [67, 79, 85, 78, 84] ++ [40, 42, 41] := by rfl
theorem itemTn {k : Int} (h1 : k ≠ 1) (h2 : k ≠ 2) (t : Tx) : itemT ⟨k, t⟩ = callsT.getD k.toNat [] ++ [40] ++ t ++ [41] := by
  unfold itemT itemP
  simp only
  rw [if_neg h1, if_neg h2]
  simp [txt, sw, sig]
set_option maxRecDepth 100000 in
theorem itemtext_any (x : It) (w : World) (hp : Pv w) (h : rightI x = true) : Calls Tryz.prog 83 #[.agg #[.int .i64 x.kind, sv x.col]] w (TellsT (itemT x) w) := by
  obtain ⟨k, t⟩ := x
  simp only
  obtain ⟨w1, hw1⟩ : ∃ w1, w.alloc (.cells #[.int .i64 k, sv t] 45) = w1 := ⟨_, rfl⟩
  obtain ⟨y, hy⟩ : ∃ y, w.heap.size = y := ⟨_, rfl⟩
  have f1 : Fr No w w1 := by rw [← hw1]; exact (Fr.refl No w).alloc _
  have hb : Blk w1 y 45 #[.int .i64 k, sv t] := by rw [← hw1, ← hy]; exact Blk.new w 45 _
  have c0 : w1.cell? ⟨y, 0, none⟩ = some (.int .i64 k) := hb.cell 0
  have c1 : w1.cell? ⟨y, 1, none⟩ = some (sv t) := hb.cell 1
  have HPV := Lib.hid (hp.no f1)
  have HF1 := Lib.hid f1
  have HW1 := Lib.hid hw1
  have HY := Lib.hid hy
  have HT : Hid (k = 2 ∨ t.length ≤ 32) := Lib.hid (by
    unfold rightI at h
    simp only at h
    split at h
    · exact .inl ‹_›
    · simp only [Bool.and_eq_true] at h
      have := h.2
      unfold isNameB at this
      simp at this
      exact .inr this.2)
  have hk : 1 ≤ k ∧ k ≤ 6 := by
    unfold rightI at h
    simp only at h
    split at h
    · omega
    · simp only [Bool.and_eq_true, decide_eq_true_eq] at h
      exact h.1
  clear f1 hb hw1 hy hp h
  go_enter Tryz.func83, Tryz.ntmps83
  go_upto_region 1 with fail
  rw [HW1.out, HY.out]
  by_cases k1 : k = 1
  · subst k1
    go_wp2_with fail
    go_ret
    exact ⟨by rw [itemT1]; rfl, HF1.out⟩
  · by_cases k2 : k = 2
    · subst k2
      have g2 : w1.cell? ⟨0, 2, none⟩ = some (sv [67, 79, 85, 78, 84]) := HPV.out.calls 2 (by decide)
      go_wp2_with fail
      go_ret
      exact ⟨by rw [itemT2]; rfl, HF1.out⟩
    · have k1' : (k == 1) = false := by simpa using k1
      have k2' : (k == 2) = false := by simpa using k2
      obtain ⟨q, rfl⟩ : ∃ q : Nat, k = (q : Nat) := ⟨k.toNat, by omega⟩
      have gq : w1.cell? ⟨0, q, none⟩ = some (sv (callsT.getD q [])) := HPV.out.calls q (by omega)
      obtain ⟨T, hT⟩ : ∃ T, callsT.getD q [] = T := ⟨_, rfl⟩
      have hq7 : (q : Int) < 7 := by omega
      have hTl : T.length ≤ 8 := by
        rw [← hT]
        have : ∀ q, q < 7 → (callsT.getD q []).length ≤ 8 := by decide
        exact this q (by omega)
      rw [hT] at gq
      have ht : t.length ≤ 32 := HT.out.resolve_left k2
      have HT2 := Lib.hid hT
      have a1 : ∀ w0, (Op.stringOp .add ⟨T.toArray⟩ ⟨#[40]⟩).run Tryz.prog w0 = .ok (.string ⟨(T ++ [40]).toArray⟩) w0 := fun w0 => run_cat T [40] (by unfold maxLen; simp; omega) w0
      have a2 : ∀ w0, (Op.stringOp .add ⟨(T ++ [40]).toArray⟩ ⟨t.toArray⟩).run Tryz.prog w0 = .ok (.string ⟨(T ++ [40] ++ t).toArray⟩) w0 := fun w0 => run_cat _ t (by unfold maxLen; simp; omega) w0
      have a3 : ∀ w0, (Op.stringOp .add ⟨(T ++ [40] ++ t).toArray⟩ ⟨#[41]⟩).run Tryz.prog w0 = .ok (.string ⟨(T ++ [40] ++ t ++ [41]).toArray⟩) w0 := fun w0 => run_cat _ [41] (by unfold maxLen; simp; omega) w0
      obtain ⟨X1, hX1⟩ : ∃ X, T ++ [40] = X := ⟨_, rfl⟩
      rw [hX1] at a1 a2 a3
      obtain ⟨X2, hX2⟩ : ∃ X, X1 ++ t = X := ⟨_, rfl⟩
      rw [hX2] at a2 a3
      obtain ⟨X3, hX3⟩ : ∃ X, X2 ++ [41] = X := ⟨_, rfl⟩
      rw [hX3] at a3
      have HV : Hid (itemT ⟨(q : Nat), t⟩ = X3) := Lib.hid (by rw [itemTn k1 k2, ← hX3, ← hX2, ← hX1, ← hT]; rfl)
      clear hT hX1 hX2 hX3 hTl ht
      go_upto_region 6 with fail
      go_region
      all_goals
        go_wp2_with fail
        go_ret
        exact ⟨by rw [HV.out]; rfl, HF1.out.drew⟩
def valT (v : Vl) : Tx := txt [] (valP [] v)
theorem valT_text (v : Vl) (h : v.isText = true) : valT v = quoteB v.text := by
  unfold valT valP
  rw [if_pos h]
  simp [txt, sw]
theorem valT_int (v : Vl) (h : v.isText = false) : valT v = Lib.itoa v.int := by
  unfold valT valP Lib.itoa
  rw [if_neg (by rw [h]; decide)]
  split
  · simp [txt, sw, sig]
  · rw [show v.int.toNat = v.int.natAbs by omega]
    simp [txt, sw]
theorem fr_grow0 (w : World) (os : Array Obj) : Fr No w (Go.Sort.grow w os) := Fr.of_below ⟨rfl, rfl, rfl, by simp [Go.Sort.grow], fun k hk => by simp [Go.Sort.grow, Array.getElem?_append, hk]⟩
theorem valuetext_any (v : Vl) (w : World) (hp : Pv w) (h : rightV v = true) (hf : i64 v.int) : Calls Tryz.prog 167 #[.agg #[.bool v.isText, sv v.text, .int .i64 v.int]] w (TellsT (valT v) w) := by
  obtain ⟨it, t, n⟩ := v
  simp only at hf ⊢
  obtain ⟨w1, hw1⟩ : ∃ w1, w.alloc (.cells #[.bool it, sv t, .int .i64 n] 47) = w1 := ⟨_, rfl⟩
  obtain ⟨y, hy⟩ : ∃ y, w.heap.size = y := ⟨_, rfl⟩
  have f1 : Fr No w w1 := by rw [← hw1]; exact (Fr.refl No w).alloc _
  have hb : Blk w1 y 47 #[.bool it, sv t, .int .i64 n] := by rw [← hw1, ← hy]; exact Blk.new w 47 _
  have c0 : w1.cell? ⟨y, 0, none⟩ = some (.bool it) := hb.cell 0
  have c1 : w1.cell? ⟨y, 1, none⟩ = some (sv t) := hb.cell 1
  have c2 : w1.cell? ⟨y, 2, none⟩ = some (.int .i64 n) := hb.cell 2
  have HPV := Lib.hid (hp.no f1)
  have HF1 := Lib.hid f1
  have HW1 := Lib.hid hw1
  have HY := Lib.hid hy
  clear f1 hb hw1 hy hp
  cases it with
  | true =>
    have ht : t.length ≤ 64 := by
      unfold rightV at h
      simp at h
      exact h.1
    have HC := Lib.hid (quote_any ⟨t.toArray⟩ w1 HPV.out.lr (by rw [sz]; omega))
    have HV : Hid (valT ⟨true, t, n⟩ = quoteB t) := Lib.hid (valT_text _ rfl)
    clear h
    go_enter Tryz.func167, Tryz.ntmps167
    go_upto_region 1 with fail
    rw [HW1.out, HY.out]
    go_wp2_with fail
    refine HC.out.mono ?_
    rintro e w2 ⟨rfl, f2⟩
    have HF2 := Lib.hid (HF1.out.trans f2 fun _ _ h => h)
    clear f2
    go_wp2_with fail
    go_ret
    exact ⟨by rw [HV.out]; rfl, HF2.out⟩
  | false =>
    have HC := Lib.hid (Tryz.strconv_FormatInt_10 n hf.1 hf.2 w1 HPV.out.p10)
    have HV : Hid (valT ⟨false, t, n⟩ = Lib.itoa n) := Lib.hid (valT_int _ rfl)
    clear h hf
    go_enter Tryz.func167, Tryz.ntmps167
    go_upto_region 1 with fail
    rw [HW1.out, HY.out]
    go_wp2_with fail
    refine HC.out.mono ?_
    rintro e w2 ⟨rfl, k, os, rfl⟩
    have HF2 : Hid (Fr No w (Go.Sort.grow (w1.drewN k) os)) := Lib.hid (HF1.out.trans (((Fr.refl No w1).drewN k).trans (fr_grow0 _ os) fun _ _ h => h) fun _ _ h => h)
    go_wp2_with fail
    go_ret
    exact ⟨by rw [HV.out]; rfl, HF2.out⟩
def lstT (l : List Tx) : Tx := [40] ++ jn l ++ [41]
theorem lstT_len (l : List Tx) : (lstT l).length = (jn l).length + 2 := by unfold lstT; simp
theorem listtext_any {K : Nat → Prop} {l : List Tx} {v : Value} (w : World) (h : RowE K w 1 (strG K w) v l) (hl : l.length ≤ 100000) (hlen : (jn l).length ≤ 100000000) : Calls Tryz.prog 134 #[v] w (TellsT (lstT l) w) := by
  have HC := Lib.hid (join_any w h hl (by omega))
  obtain ⟨A, c, rfl, _⟩ := h
  have hX : (jn l).length ≤ 100000000 := hlen
  have HV : Hid (lstT l = [40] ++ jn l ++ [41]) := Lib.hid rfl
  generalize jn l = X at *
  have a1 : ∀ w0, (Op.stringOp .add ⟨#[40]⟩ ⟨X.toArray⟩).run Tryz.prog w0 = .ok (.string ⟨([40] ++ X).toArray⟩) w0 := fun w0 => run_cat [40] X (by unfold maxLen; simp; omega) w0
  have a2 : ∀ w0, (Op.stringOp .add ⟨([40] ++ X).toArray⟩ ⟨#[41]⟩).run Tryz.prog w0 = .ok (.string ⟨([40] ++ X ++ [41]).toArray⟩) w0 := fun w0 => run_cat _ [41] (by unfold maxLen; simp; omega) w0
  obtain ⟨X1, hX1⟩ : ∃ Z, [40] ++ X = Z := ⟨_, rfl⟩
  rw [hX1] at a1 a2 HV
  obtain ⟨X2, hX2⟩ : ∃ Z, X1 ++ [41] = Z := ⟨_, rfl⟩
  rw [hX2] at a2 HV
  clear hX1 hX2 hlen hX
  go_enter Tryz.func134, Tryz.ntmps134
  go_wp2_with fail
  refine HC.out.mono ?_
  rintro e w2 ⟨rfl, f2⟩
  have HF2 := Lib.hid f2
  clear f2
  go_wp2_with fail
  go_ret
  exact ⟨by rw [HV.out]; rfl, HF2.out⟩
end Go.Proofs.YtkcnbmgaeompjaaGreatDoor
/- Texts of lists: what is joined, element by element. -/
namespace Go.Proofs.YtkcnbmgaeompjaaGreatDoor
open Go.RowKit Go.Maps
set_option linter.unusedVariables false

def E9 (t : Tx) : Prop := t.length ≤ maxLen
theorem jn_mem {α : Type} {f : α → Tx} {x : α} : ∀ {l : List α}, x ∈ l → (f x).length ≤ (jn (l.map f)).length
  | a :: l, h => by
    unfold jn
    rw [List.map_cons, Lib.join_cons, List.length_append]
    rcases List.mem_cons.1 h with rfl | h
    · omega
    · have : ∀ l : List α, x ∈ l → (f x).length ≤ (Lib.joinTail [44, 32] (l.map f)).length := by
        intro l
        induction l with
        | nil => intro h; cases h
        | cons b l ih =>
          intro h
          have e : Lib.joinTail [44, 32] ((b :: l).map f) = ([44, 32] ++ f b) ++ Lib.joinTail [44, 32] (l.map f) := rfl
          rw [e, List.length_append, List.length_append]
          rcases List.mem_cons.1 h with rfl | h
          · omega
          · have := ih h; omega
      have := this l h
      omega
theorem map_take {α : Type} {l : List α} {f : α → Tx} {j : Nat} (h : j < l.length) : (l.take (j + 1)).map f = (l.take j).map f ++ [f l[j]] := by
  rw [List.take_succ_eq_append_getElem h, List.map_append]; rfl

set_option maxRecDepth 100000 in
set_option maxHeartbeats 4000000 in
theorem joined82_any {K : Nat → Prop} {l : List It} {v : Value} (w : World) (hp : Pv w) (h : RowE K w 2 (itG K w) v l) (h1 : 1 ≤ l.length) (h64 : l.length ≤ 64) (hok : ∀ x ∈ l, rightI x = true) (hlen : (jn (l.map itemT)).length ≤ 100000000) :
    Calls Tryz.prog 82 #[v, .func (.func 83) #[] #[]] w (TellsT (jn (l.map itemT)) w) := by
  obtain ⟨A, c, rfl, hlc, hcm, hrow⟩ := h
  obtain ⟨n, hn⟩ : ∃ n, l.length = n := ⟨_, rfl⟩
  obtain ⟨b, hb⟩ : ∃ b, w.heap.size = b := ⟨_, rfl⟩
  obtain ⟨i0, hi, hz0, hz1, hz2⟩ := info_parts (show (Tryz.prog.info? 9).map (fun i => (i.zero, i.size, i.bytes)) = some (some (.string ⟨#[]⟩), 1, 16) by kernel_rfl)
  rw [hn] at hlc h1 h64 ⊢
  obtain ⟨w0, hms, how, hgr⟩ := run_make_own (P := Tryz.prog) (w := w) b 52 9 i0 (.string ⟨#[]⟩) 1 Tryz.underlying52 hi hz0 hz1 .i64 .i64 n (by rw [hz2]; omega) (by unfold maxLen; omega) (by omega)
  have f0 : Fr No w w0 := (Fr.refl No w).grown hgr (fun k h _ => by cases h)
  rw [hb] at hms how
  have hg0 : Grow b 9 1 strG w0 (.slice (some ⟨b, 0, none⟩) 0 n) [] := ⟨No, [], how, fun j hj => absurd hj (by simp), fun k hk => hk.elim⟩
  have HROW := Lib.hid hrow
  have HN := Lib.hid hn
  have HB := Lib.hid hb
  have HP := Lib.hid hp
  have HOK := Lib.hid hok
  have HF0 := Lib.hid f0
  have HG0 := Lib.hid hg0
  have HLEN := Lib.hid hlen
  unfold maxLen at hcm
  clear hrow hp hn hok hb f0 hg0 hlen hi hz0 hz1 hz2 how hgr
  go_enter Tryz.func82, Tryz.ntmps82
  go_wp2_with fail
  go_loopg [5, 7, 13] n (fun k r5 r7 r13 wr => Hid (∃ j : Nat, r13 = .int .i64 (j : Nat) ∧ j + k = n ∧ Fr No w wr ∧ Grow b 9 1 strG wr r5 ((l.take j).map itemT)))
  case atStart => exact Lib.hid ⟨0, rfl, by omega, HF0.out, HG0.out⟩
  case round =>
    obtain ⟨j, rfl, hjn, hf, hgw⟩ := hrel.out
    obtain ⟨A5, c5, rfl⟩ := hgw.len
    obtain ⟨L5, hL5⟩ : ∃ L5, (l.take j).map itemT = L5 := ⟨_, rfl⟩
    have hlt5 : L5.length = j := by rw [← hL5, List.length_map, List.length_take, HN.out]; omega
    rw [hL5] at hgw
    have HLT := Lib.hid hlt5
    have HL5 := Lib.hid hL5
    have HG := Lib.hid hgw
    simp only [hL5, hlt5]
    rw [hlt5] at HG
    clear hrel hgw hlt5 hL5
    by_cases hj : j < n
    · have hji : (j : Int) < (n : Int) := by omega
      have hjl : j < l.length := by rw [HN.out]; exact hj
      obtain ⟨g, off, rfl, hK, hg, hel⟩ := HROW.out (by omega)
      obtain ⟨cs, hcl, hcs, hE⟩ := hel j hjl
      have hokx := HOK.out l[j] (List.getElem_mem hjl)
      have hmt := map_take (f := itemT) hjl
      rw [HL5.out] at hmt
      obtain ⟨x, hx⟩ : ∃ x, l[j] = x := ⟨_, rfl⟩
      rw [hx] at hE hokx hmt
      have HMT := Lib.hid hmt
      have hjn2 : (jn (l.map itemT)).length ≤ 100000000 := HLEN.out
      have hxle : (itemT x).length ≤ 100000000 := Nat.le_trans (jn_mem (f := itemT) (x := x) (hx ▸ List.getElem_mem hjl)) hjn2
      obtain ⟨hE, hxl, _⟩ := hE
      have p0 : wr.cell? ⟨g, off + j * 2, none⟩ = some (.int .i64 x.kind) := (cell_of_heap (hf.block g hg id)).trans (by have := hcs 0 (by decide); rw [hE] at this; simpa using this)
      have p1 : wr.cell? ⟨g, off + j * 2 + 1, none⟩ = some (sv x.col) := (cell_of_heap (hf.block g hg id)).trans (by have := hcs 1 (by decide); rw [hE] at this; simpa using this)
      obtain ⟨wn, hwn⟩ : ∃ wn, wr.alloc (.cells #[.int .i64 x.kind, sv x.col] 45) = wn := ⟨_, rfl⟩
      obtain ⟨y, hy⟩ : ∃ y, wr.heap.size = y := ⟨_, rfl⟩
      have f1 : Fr No wr wn := by rw [← hwn]; exact (Fr.refl No wr).alloc _
      have hb : Blk wn y 45 #[.int .i64 x.kind, sv x.col] := by rw [← hwn, ← hy]; exact Blk.new wr 45 _
      have m0 : wn.cell? ⟨y, 0, none⟩ = some (.int .i64 x.kind) := hb.cell 0
      have m1 : wn.cell? ⟨y, 1, none⟩ = some (sv x.col) := hb.cell 1
      have HWN := Lib.hid hwn
      have HY := Lib.hid hy
      have HFN := Lib.hid (hf.trans f1 fun _ _ h => h)
      have HGN := Lib.hid (HG.out.keep strG_elem f1 (fun _ h => h.elim))
      clear hb hwn hy f1
      have HC := Lib.hid (itemtext_any x wn (HP.out.no HFN.out) hokx)
      have HXL := Lib.hid hxle
      clear hcs hcl hel hK hf hE hx hmt hjn2 hokx hxle 
      go_upto_region 5 with fail
      rw [HY.out, HWN.out]
      go_wp2_with fail
      refine HC.out.mono ?_
      clear HC
      rintro e w5 ⟨rfl, f5⟩
      have hg5 := HGN.out.keep strG_elem f5 (fun _ h => h.elim)
      have hf5 := HFN.out.trans f5 fun _ _ h => h
      have hxm : E9 (itemT x) := by have := HXL.out; unfold E9; unfold maxLen; omega
      have HJN : Hid (j ≤ 64) := Lib.hid (by omega)
      rw [← HLT.out] at hg5
      obtain ⟨A', c', w6, hrun, hg6, hfr6, hlt6⟩ := Grow.more (bytes := 16) strG_elem (w0 := w5) hg5 (by have := hf5.size; have := HB.out; omega) (Nat.le_refl _) (fun k hk => (hg5.lt k hk).2) 52 Tryz.underlying52 (.string ⟨#[]⟩) (by kernel_rfl) rfl (by decide) (itemT x) [sv (itemT x)] rfl (by simp [Value.oneCell']) ⟨rfl, hxm⟩ (by rw [HLT.out]; omega) (by rw [HLT.out]; unfold maxLen; omega)
      have HF6 : Hid (Fr No w w6) := Lib.hid (hf5.own hfr6 fun k hk => by have := (hg5.lt k hk).1; have := HB.out; omega)
      rw [← HMT.out] at hg6
      have HG6 := Lib.hid hg6
      have HRUN := Lib.hid hrun
      rw [HLT.out] at HRUN HG6
      obtain ⟨X, hX⟩ : ∃ X, itemT x = X := ⟨_, rfl⟩
      rw [hX] at HRUN
      rw [hX]
      have HW5 : Hid (∀ ty, (Builtin.append_ #[52, 52] ty #[.slice A5 j c5, .slice (some ⟨w5.heap.size, 0, none⟩) 1 1]).run Tryz.prog (w5.alloc (.cells #[sv X] 9)) = .ok (.slice A' (j + 1) c') w6) := HRUN
      clear hg5 hf5 hg6 hfr6 hlt6 hrun f5 hxm hX HRUN
      go_wp2_with (at_builtin; refine wpList_add rfl _ _ _ _ rfl _ _ _ _ rfl rfl (HW5.out _) ?_)
      obtain ⟨g1, rfl⟩ : ∃ g1, gk = g1 + 1 := ⟨gk - 1, by omega⟩
      go_roundg g1
      case rel => exact Lib.hid ⟨j + 1, by go_num, by omega, HF6.out, HG6.out⟩
      all_goals omega
    · have hji : (n : Int) ≤ (j : Int) := by omega
      obtain rfl : j = n := by omega
      have hrow2 := HG.out
      rw [← HLT.out] at hrow2
      have hrow3 := hrow2.row strG_elem
      rw [HLT.out, ← HL5.out, List.take_of_length_le (by rw [HN.out]; omega)] at hrow3
      have HJ := Lib.hid (join_any wr hrow3 (by rw [List.length_map, HN.out]; omega) (by have := HLEN.out; omega))
      have HFE := Lib.hid hf
      clear hf hrow2 hrow3
      go_wp2_with fail
      refine HJ.out.mono ?_
      rintro e w5 ⟨rfl, f5⟩
      have HF5 := Lib.hid (HFE.out.trans f5 fun _ _ h => h)
      clear f5
      go_wp2_with fail
      go_ret
      exact ⟨rfl, HF5.out⟩

set_option maxRecDepth 100000 in
set_option maxHeartbeats 4000000 in
theorem joined166_any {K : Nat → Prop} {l : List Vl} {v : Value} (w : World) (hp : Pv w) (h : RowE K w 3 (vlG K w) v l) (h1 : 1 ≤ l.length) (h64 : l.length ≤ 64) (hok : ∀ x ∈ l, rightV x = true) (hlen : (jn (l.map valT)).length ≤ 100000000) :
    Calls Tryz.prog 166 #[v, .func (.func 167) #[] #[]] w (TellsT (jn (l.map valT)) w) := by
  obtain ⟨A, c, rfl, hlc, hcm, hrow⟩ := h
  obtain ⟨n, hn⟩ : ∃ n, l.length = n := ⟨_, rfl⟩
  obtain ⟨b, hb⟩ : ∃ b, w.heap.size = b := ⟨_, rfl⟩
  obtain ⟨i0, hi, hz0, hz1, hz2⟩ := info_parts (show (Tryz.prog.info? 9).map (fun i => (i.zero, i.size, i.bytes)) = some (some (.string ⟨#[]⟩), 1, 16) by kernel_rfl)
  rw [hn] at hlc h1 h64 ⊢
  obtain ⟨w0, hms, how, hgr⟩ := run_make_own (P := Tryz.prog) (w := w) b 52 9 i0 (.string ⟨#[]⟩) 1 Tryz.underlying52 hi hz0 hz1 .i64 .i64 n (by rw [hz2]; omega) (by unfold maxLen; omega) (by omega)
  have f0 : Fr No w w0 := (Fr.refl No w).grown hgr (fun k h _ => by cases h)
  rw [hb] at hms how
  have hg0 : Grow b 9 1 strG w0 (.slice (some ⟨b, 0, none⟩) 0 n) [] := ⟨No, [], how, fun j hj => absurd hj (by simp), fun k hk => hk.elim⟩
  have HROW := Lib.hid hrow
  have HN := Lib.hid hn
  have HB := Lib.hid hb
  have HP := Lib.hid hp
  have HOK := Lib.hid hok
  have HF0 := Lib.hid f0
  have HG0 := Lib.hid hg0
  have HLEN := Lib.hid hlen
  unfold maxLen at hcm
  clear hrow hp hn hok hb f0 hg0 hlen hi hz0 hz1 hz2 how hgr
  go_enter Tryz.func166, Tryz.ntmps166
  go_wp2_with fail
  go_loopg [5, 7, 13] n (fun k r5 r7 r13 wr => Hid (∃ j : Nat, r13 = .int .i64 (j : Nat) ∧ j + k = n ∧ Fr No w wr ∧ Grow b 9 1 strG wr r5 ((l.take j).map valT)))
  case atStart => exact Lib.hid ⟨0, rfl, by omega, HF0.out, HG0.out⟩
  case round =>
    obtain ⟨j, rfl, hjn, hf, hgw⟩ := hrel.out
    obtain ⟨A5, c5, rfl⟩ := hgw.len
    obtain ⟨L5, hL5⟩ : ∃ L5, (l.take j).map valT = L5 := ⟨_, rfl⟩
    have hlt5 : L5.length = j := by rw [← hL5, List.length_map, List.length_take, HN.out]; omega
    rw [hL5] at hgw
    have HLT := Lib.hid hlt5
    have HL5 := Lib.hid hL5
    have HG := Lib.hid hgw
    simp only [hL5, hlt5]
    rw [hlt5] at HG
    clear hrel hgw hlt5 hL5
    by_cases hj : j < n
    · have hji : (j : Int) < (n : Int) := by omega
      have hjl : j < l.length := by rw [HN.out]; exact hj
      obtain ⟨g, off, rfl, hK, hg, hel⟩ := HROW.out (by omega)
      obtain ⟨cs, hcl, hcs, hE⟩ := hel j hjl
      have hokx := HOK.out l[j] (List.getElem_mem hjl)
      have hmt := map_take (f := valT) hjl
      rw [HL5.out] at hmt
      obtain ⟨x, hx⟩ : ∃ x, l[j] = x := ⟨_, rfl⟩
      rw [hx] at hE hokx hmt
      have HMT := Lib.hid hmt
      have hjn2 : (jn (l.map valT)).length ≤ 100000000 := HLEN.out
      have hxle : (valT x).length ≤ 100000000 := Nat.le_trans (jn_mem (f := valT) (x := x) (hx ▸ List.getElem_mem hjl)) hjn2
      obtain ⟨hE, hxl, hxi⟩ := hE
      have p0 : wr.cell? ⟨g, off + j * 3, none⟩ = some (.bool x.isText) := (cell_of_heap (hf.block g hg id)).trans (by have := hcs 0 (by decide); rw [hE] at this; simpa using this)
      have p1 : wr.cell? ⟨g, off + j * 3 + 1, none⟩ = some (sv x.text) := (cell_of_heap (hf.block g hg id)).trans (by have := hcs 1 (by decide); rw [hE] at this; simpa using this)
      have p2 : wr.cell? ⟨g, off + j * 3 + 2, none⟩ = some (.int .i64 x.int) := (cell_of_heap (hf.block g hg id)).trans (by have := hcs 2 (by decide); rw [hE] at this; simpa using this)
      obtain ⟨wn, hwn⟩ : ∃ wn, wr.alloc (.cells #[.bool x.isText, sv x.text, .int .i64 x.int] 47) = wn := ⟨_, rfl⟩
      obtain ⟨y, hy⟩ : ∃ y, wr.heap.size = y := ⟨_, rfl⟩
      have f1 : Fr No wr wn := by rw [← hwn]; exact (Fr.refl No wr).alloc _
      have hb : Blk wn y 47 #[.bool x.isText, sv x.text, .int .i64 x.int] := by rw [← hwn, ← hy]; exact Blk.new wr 47 _
      have m0 : wn.cell? ⟨y, 0, none⟩ = some (.bool x.isText) := hb.cell 0
      have m1 : wn.cell? ⟨y, 1, none⟩ = some (sv x.text) := hb.cell 1
      have m2 : wn.cell? ⟨y, 2, none⟩ = some (.int .i64 x.int) := hb.cell 2
      have HWN := Lib.hid hwn
      have HY := Lib.hid hy
      have HFN := Lib.hid (hf.trans f1 fun _ _ h => h)
      have HGN := Lib.hid (HG.out.keep strG_elem f1 (fun _ h => h.elim))
      clear hb hwn hy f1
      have HC := Lib.hid (valuetext_any x wn (HP.out.no HFN.out) hokx hxi)
      have HXL := Lib.hid hxle
      clear hcs hcl hel hK hf hE hx hmt hjn2 hokx hxle 
      go_upto_region 5 with fail
      rw [HY.out, HWN.out]
      go_wp2_with fail
      refine HC.out.mono ?_
      clear HC
      rintro e w5 ⟨rfl, f5⟩
      have hg5 := HGN.out.keep strG_elem f5 (fun _ h => h.elim)
      have hf5 := HFN.out.trans f5 fun _ _ h => h
      have hxm : E9 (valT x) := by have := HXL.out; unfold E9; unfold maxLen; omega
      have HJN : Hid (j ≤ 64) := Lib.hid (by omega)
      rw [← HLT.out] at hg5
      obtain ⟨A', c', w6, hrun, hg6, hfr6, hlt6⟩ := Grow.more (bytes := 16) strG_elem (w0 := w5) hg5 (by have := hf5.size; have := HB.out; omega) (Nat.le_refl _) (fun k hk => (hg5.lt k hk).2) 52 Tryz.underlying52 (.string ⟨#[]⟩) (by kernel_rfl) rfl (by decide) (valT x) [sv (valT x)] rfl (by simp [Value.oneCell']) ⟨rfl, hxm⟩ (by rw [HLT.out]; omega) (by rw [HLT.out]; unfold maxLen; omega)
      have HF6 : Hid (Fr No w w6) := Lib.hid (hf5.own hfr6 fun k hk => by have := (hg5.lt k hk).1; have := HB.out; omega)
      rw [← HMT.out] at hg6
      have HG6 := Lib.hid hg6
      have HRUN := Lib.hid hrun
      rw [HLT.out] at HRUN HG6
      obtain ⟨X, hX⟩ : ∃ X, valT x = X := ⟨_, rfl⟩
      rw [hX] at HRUN
      rw [hX]
      have HW5 : Hid (∀ ty, (Builtin.append_ #[52, 52] ty #[.slice A5 j c5, .slice (some ⟨w5.heap.size, 0, none⟩) 1 1]).run Tryz.prog (w5.alloc (.cells #[sv X] 9)) = .ok (.slice A' (j + 1) c') w6) := HRUN
      clear hg5 hf5 hg6 hfr6 hlt6 hrun f5 hxm hX HRUN
      go_wp2_with (at_builtin; refine wpList_add rfl _ _ _ _ rfl _ _ _ _ rfl rfl (HW5.out _) ?_)
      obtain ⟨g1, rfl⟩ : ∃ g1, gk = g1 + 1 := ⟨gk - 1, by omega⟩
      go_roundg g1
      case rel => exact Lib.hid ⟨j + 1, by go_num, by omega, HF6.out, HG6.out⟩
      all_goals omega
    · have hji : (n : Int) ≤ (j : Int) := by omega
      obtain rfl : j = n := by omega
      have hrow2 := HG.out
      rw [← HLT.out] at hrow2
      have hrow3 := hrow2.row strG_elem
      rw [HLT.out, ← HL5.out, List.take_of_length_le (by rw [HN.out]; omega)] at hrow3
      have HJ := Lib.hid (join_any wr hrow3 (by rw [List.length_map, HN.out]; omega) (by have := HLEN.out; omega))
      have HFE := Lib.hid hf
      clear hf hrow2 hrow3
      go_wp2_with fail
      refine HJ.out.mono ?_
      rintro e w5 ⟨rfl, f5⟩
      have HF5 := Lib.hid (HFE.out.trans f5 fun _ _ h => h)
      clear f5
      go_wp2_with fail
      go_ret
      exact ⟨rfl, HF5.out⟩

set_option maxRecDepth 100000 in
set_option maxHeartbeats 4000000 in
theorem joined135_any {K : Nat → Prop} {l : List (List Tx)} {v : Value} (w : World) (hp : Pv w) (h : RowE K w 1 (lsG K w) v l) (h1 : 1 ≤ l.length) (h64 : l.length ≤ 64) (hok : ∀ x ∈ l, x.length ≤ 100000) (hlen : (jn (l.map lstT)).length ≤ 100000000) :
    Calls Tryz.prog 135 #[v, .func (.func 134) #[] #[]] w (TellsT (jn (l.map lstT)) w) := by
  obtain ⟨A, c, rfl, hlc, hcm, hrow⟩ := h
  obtain ⟨n, hn⟩ : ∃ n, l.length = n := ⟨_, rfl⟩
  obtain ⟨b, hb⟩ : ∃ b, w.heap.size = b := ⟨_, rfl⟩
  obtain ⟨i0, hi, hz0, hz1, hz2⟩ := info_parts (show (Tryz.prog.info? 9).map (fun i => (i.zero, i.size, i.bytes)) = some (some (.string ⟨#[]⟩), 1, 16) by kernel_rfl)
  rw [hn] at hlc h1 h64 ⊢
  obtain ⟨w0, hms, how, hgr⟩ := run_make_own (P := Tryz.prog) (w := w) b 52 9 i0 (.string ⟨#[]⟩) 1 Tryz.underlying52 hi hz0 hz1 .i64 .i64 n (by rw [hz2]; omega) (by unfold maxLen; omega) (by omega)
  have f0 : Fr No w w0 := (Fr.refl No w).grown hgr (fun k h _ => by cases h)
  rw [hb] at hms how
  have hg0 : Grow b 9 1 strG w0 (.slice (some ⟨b, 0, none⟩) 0 n) [] := ⟨No, [], how, fun j hj => absurd hj (by simp), fun k hk => hk.elim⟩
  have HROW := Lib.hid hrow
  have HN := Lib.hid hn
  have HB := Lib.hid hb
  have HP := Lib.hid hp
  have HOK := Lib.hid hok
  have HF0 := Lib.hid f0
  have HG0 := Lib.hid hg0
  have HLEN := Lib.hid hlen
  unfold maxLen at hcm
  clear hrow hp hn hok hb f0 hg0 hlen hi hz0 hz1 hz2 how hgr
  go_enter Tryz.func135, Tryz.ntmps135
  go_wp2_with fail
  go_loopg [5, 7, 13] n (fun k r5 r7 r13 wr => Hid (∃ j : Nat, r13 = .int .i64 (j : Nat) ∧ j + k = n ∧ Fr No w wr ∧ Grow b 9 1 strG wr r5 ((l.take j).map lstT)))
  case atStart => exact Lib.hid ⟨0, rfl, by omega, HF0.out, HG0.out⟩
  case round =>
    obtain ⟨j, rfl, hjn, hf, hgw⟩ := hrel.out
    obtain ⟨A5, c5, rfl⟩ := hgw.len
    obtain ⟨L5, hL5⟩ : ∃ L5, (l.take j).map lstT = L5 := ⟨_, rfl⟩
    have hlt5 : L5.length = j := by rw [← hL5, List.length_map, List.length_take, HN.out]; omega
    rw [hL5] at hgw
    have HLT := Lib.hid hlt5
    have HL5 := Lib.hid hL5
    have HG := Lib.hid hgw
    simp only [hL5, hlt5]
    rw [hlt5] at HG
    clear hrel hgw hlt5 hL5
    by_cases hj : j < n
    · have hji : (j : Int) < (n : Int) := by omega
      have hjl : j < l.length := by rw [HN.out]; exact hj
      obtain ⟨g, off, rfl, hK, hg, hel⟩ := HROW.out (by omega)
      obtain ⟨cs, hcl, hcs, hE⟩ := hel j hjl
      have hokx := HOK.out l[j] (List.getElem_mem hjl)
      have hmt := map_take (f := lstT) hjl
      rw [HL5.out] at hmt
      obtain ⟨x, hx⟩ : ∃ x, l[j] = x := ⟨_, rfl⟩
      rw [hx] at hE hokx hmt
      have HMT := Lib.hid hmt
      have hjn2 : (jn (l.map lstT)).length ≤ 100000000 := HLEN.out
      have hxle : (lstT x).length ≤ 100000000 := Nat.le_trans (jn_mem (f := lstT) (x := x) (hx ▸ List.getElem_mem hjl)) hjn2
      obtain ⟨v0, hE, _, hR⟩ := hE
      obtain ⟨A1, n1, d1, rfl⟩ : ∃ A1 n1 d1, v0 = .slice A1 n1 d1 := by obtain ⟨A, c, e, _⟩ := hR; exact ⟨_, _, _, e⟩
      have p0 : wr.cell? ⟨g, off + j, none⟩ = some (.slice A1 n1 d1) := (cell_of_heap (hf.block g hg id)).trans (by have := hcs 0 (by decide); rw [hE] at this; simpa using this)
      have HFN := Lib.hid hf
      have HGN := HG
      have HC := Lib.hid (listtext_any wr (hR.at_ strG_elem HFN.out) hokx (by have := lstT_len x; omega))
      have HXL := Lib.hid hxle
      clear hcs hcl hel hK hf hE hx hmt hjn2 hokx hxle hR
      go_wp2_with fail
      refine HC.out.mono ?_
      clear HC
      rintro e w5 ⟨rfl, f5⟩
      have hg5 := HGN.out.keep strG_elem f5 (fun _ h => h.elim)
      have hf5 := HFN.out.trans f5 fun _ _ h => h
      have hxm : E9 (lstT x) := by have := HXL.out; unfold E9; unfold maxLen; omega
      have HJN : Hid (j ≤ 64) := Lib.hid (by omega)
      rw [← HLT.out] at hg5
      obtain ⟨A', c', w6, hrun, hg6, hfr6, hlt6⟩ := Grow.more (bytes := 16) strG_elem (w0 := w5) hg5 (by have := hf5.size; have := HB.out; omega) (Nat.le_refl _) (fun k hk => (hg5.lt k hk).2) 52 Tryz.underlying52 (.string ⟨#[]⟩) (by kernel_rfl) rfl (by decide) (lstT x) [sv (lstT x)] rfl (by simp [Value.oneCell']) ⟨rfl, hxm⟩ (by rw [HLT.out]; omega) (by rw [HLT.out]; unfold maxLen; omega)
      have HF6 : Hid (Fr No w w6) := Lib.hid (hf5.own hfr6 fun k hk => by have := (hg5.lt k hk).1; have := HB.out; omega)
      rw [← HMT.out] at hg6
      have HG6 := Lib.hid hg6
      have HRUN := Lib.hid hrun
      rw [HLT.out] at HRUN HG6
      obtain ⟨X, hX⟩ : ∃ X, lstT x = X := ⟨_, rfl⟩
      rw [hX] at HRUN
      rw [hX]
      have HW5 : Hid (∀ ty, (Builtin.append_ #[52, 52] ty #[.slice A5 j c5, .slice (some ⟨w5.heap.size, 0, none⟩) 1 1]).run Tryz.prog (w5.alloc (.cells #[sv X] 9)) = .ok (.slice A' (j + 1) c') w6) := HRUN
      clear hg5 hf5 hg6 hfr6 hlt6 hrun f5 hxm hX HRUN
      go_wp2_with (at_builtin; refine wpList_add rfl _ _ _ _ rfl _ _ _ _ rfl rfl (HW5.out _) ?_)
      obtain ⟨g1, rfl⟩ : ∃ g1, gk = g1 + 1 := ⟨gk - 1, by omega⟩
      go_roundg g1
      case rel => exact Lib.hid ⟨j + 1, by go_num, by omega, HF6.out, HG6.out⟩
      all_goals omega
    · have hji : (n : Int) ≤ (j : Int) := by omega
      obtain rfl : j = n := by omega
      have hrow2 := HG.out
      rw [← HLT.out] at hrow2
      have hrow3 := hrow2.row strG_elem
      rw [HLT.out, ← HL5.out, List.take_of_length_le (by rw [HN.out]; omega)] at hrow3
      have HJ := Lib.hid (join_any wr hrow3 (by rw [List.length_map, HN.out]; omega) (by have := HLEN.out; omega))
      have HFE := Lib.hid hf
      clear hf hrow2 hrow3
      go_wp2_with fail
      refine HJ.out.mono ?_
      rintro e w5 ⟨rfl, f5⟩
      have HF5 := Lib.hid (HFE.out.trans f5 fun _ _ h => h)
      clear f5
      go_wp2_with fail
      go_ret
      exact ⟨rfl, HF5.out⟩
end Go.Proofs.YtkcnbmgaeompjaaGreatDoor
/- What is shown, as texts, plain. -/
namespace Go.Proofs.YtkcnbmgaeompjaaGreatDoor
set_option linter.unusedVariables false

theorem txt_app (z : Tx) : ∀ a b : List Pc, txt z (a ++ b) = txt (txt z b) a
  | [], b => rfl
  | c :: a, b => by
    show c.gap ++ (c.x ++ txt z (a ++ b)) = c.gap ++ (c.x ++ txt (txt z b) a)
    rw [txt_app z a b]
def Shows {α : Type} (one : Tx → α → List Pc) (f : α → Tx) : Prop := ∀ g a z, txt z (one g a) = g ++ f a ++ z
theorem rest_txt {α : Type} {one : Tx → α → List Pc} {f : α → Tx} (h : Shows one f) (z : Tx) : ∀ l : List α, txt z (restP one l) = Lib.joinTail [44, 32] (l.map f) ++ z
  | [] => rfl
  | a :: l => by
    have e : Lib.joinTail [44, 32] ((a :: l).map f) = ([44, 32] ++ f a) ++ Lib.joinTail [44, 32] (l.map f) := rfl
    rw [e]
    show [] ++ ([44] ++ txt z (one [32] a ++ restP one l)) = _
    rw [txt_app, h, rest_txt h z l]
    simp
theorem sep_txt {α : Type} {one : Tx → α → List Pc} {f : α → Tx} (h : Shows one f) (g z : Tx) : ∀ l : List α, l ≠ [] ∨ g = [] → txt z (sepP one g l) = g ++ jn (l.map f) ++ z
  | [], hl => by
    obtain rfl := hl.resolve_left (fun h => h rfl)
    rfl
  | a :: l, _ => by
    show txt z (one g a ++ restP one l) = _
    rw [txt_app, h, rest_txt h z l]
    unfold jn
    rw [List.map_cons, Lib.join_cons]
    simp
theorem name_shows : Shows nameP (fun t => t) := fun g t z => by
  show g ++ (t ++ z) = _
  simp
theorem item_shows : Shows itemP itemT := fun g i z => by
  unfold itemT itemP
  split
  · simp [txt, sw]
  · split <;> simp [txt, sw, sig]
theorem val_shows : Shows valP valT := fun g v z => by
  unfold valT valP
  split
  · simp [txt, sw]
  · split <;> simp [txt, sw, sig]
theorem brk_txt (g z : Tx) (l : List Pc) (t : Tx) (h : ∀ z, txt z l = t ++ z) : txt z (brk g l) = g ++ ([40] ++ t ++ [41]) ++ z := by
  show g ++ ([40] ++ txt z (l ++ [sig [] 41])) = _
  rw [txt_app, h]
  show g ++ ([40] ++ (t ++ ([] ++ ([41] ++ z)))) = _
  simp
theorem lst_shows : Shows lstP lstT := fun g l z => by
  unfold lstP lstT
  rw [brk_txt g z _ (jn l) fun z => by rw [sep_txt name_shows [] z l (.inr rfl)]; simp]
def groupT (e : Gp) : Tx := txt [] (grpP [] e)
theorem groupT1 {e : Gp} (h : e.kind = 1) : groupT e = e.cols.headD [] := by
  unfold groupT grpP
  rw [if_pos h]
  simp [txt, sw]
theorem groupT2 {e : Gp} (h : e.kind = 2) : groupT e = [82, 79, 76, 76, 85, 80] ++ lstT e.cols := by
  unfold groupT grpP
  rw [if_neg (by omega), if_pos h]
  show [] ++ ([82, 79, 76, 76, 85, 80] ++ txt [] (lstP [] e.cols)) = _
  rw [lst_shows]
  simp
theorem groupT3 {e : Gp} (h : e.kind = 3) : groupT e = [67, 85, 66, 69] ++ lstT e.cols := by
  unfold groupT grpP
  rw [if_neg (by omega), if_neg (by omega), if_pos h]
  show [] ++ ([67, 85, 66, 69] ++ txt [] (lstP [] e.cols)) = _
  rw [lst_shows]
  simp
theorem groupT4 {e : Gp} (h1 : e.kind ≠ 1) (h2 : e.kind ≠ 2) (h3 : e.kind ≠ 3) : groupT e = [71, 82, 79, 85, 80, 73, 78, 71, 32, 83, 69, 84, 83, 40] ++ jn (e.sets.map lstT) ++ [41] := by
  unfold groupT grpP
  rw [if_neg h1, if_neg h2, if_neg h3]
  show [] ++ ([71, 82, 79, 85, 80, 73, 78, 71] ++ ([32] ++ ([83, 69, 84, 83] ++ txt [] (brk [] (sepP lstP [] e.sets))))) = _
  rw [brk_txt [] [] _ (jn (e.sets.map lstT)) fun z => by rw [sep_txt lst_shows [] z e.sets (.inr rfl)]; simp]
  simp
theorem grp_shows : Shows grpP groupT := fun g e z => by
  unfold groupT grpP
  split
  · simp [txt, sw]
  split
  · show g ++ ([82, 79, 76, 76, 85, 80] ++ txt z (lstP [] e.cols)) = g ++ ([] ++ ([82, 79, 76, 76, 85, 80] ++ txt [] (lstP [] e.cols))) ++ z
    rw [lst_shows, lst_shows]
    simp
  split
  · show g ++ ([67, 85, 66, 69] ++ txt z (lstP [] e.cols)) = g ++ ([] ++ ([67, 85, 66, 69] ++ txt [] (lstP [] e.cols))) ++ z
    rw [lst_shows, lst_shows]
    simp
  · show g ++ ([71, 82, 79, 85, 80, 73, 78, 71] ++ ([32] ++ ([83, 69, 84, 83] ++ txt z (brk [] (sepP lstP [] e.sets))))) = g ++ ([] ++ ([71, 82, 79, 85, 80, 73, 78, 71] ++ ([32] ++ ([83, 69, 84, 83] ++ txt [] (brk [] (sepP lstP [] e.sets)))))) ++ z
    rw [brk_txt [] z _ (jn (e.sets.map lstT)) fun z => by rw [sep_txt lst_shows [] z e.sets (.inr rfl)]; simp, brk_txt [] [] _ (jn (e.sets.map lstT)) fun z => by rw [sep_txt lst_shows [] z e.sets (.inr rfl)]; simp]
    simp
end Go.Proofs.YtkcnbmgaeompjaaGreatDoor
/- Texts of elements, walked. -/
namespace Go.Proofs.YtkcnbmgaeompjaaGreatDoor
open Go.RowKit Go.Maps
set_option linter.unusedVariables false

theorem rightL_len {α : Type} {l : List α} {a b : Nat} {p : α → Bool} (h : rightL l a b p = true) : a ≤ l.length ∧ l.length ≤ b ∧ ∀ x ∈ l, p x = true := by
  unfold rightL at h
  simp only [Bool.and_eq_true, decide_eq_true_eq, List.all_eq_true] at h
  exact ⟨h.1.1, h.1.2, h.2⟩
set_option maxRecDepth 100000 in
theorem grouptext_any {K : Nat → Prop} (v : Gp) {a b : Value} (w : World) (hp : Pv w) (hA : RowE K w 1 (strG K w) a v.cols) (hB : RowE K w 1 (lsG K w) b v.sets) (h : rightG v = true) (hlen : (groupT v).length ≤ 100000000) : Calls Tryz.prog 86 #[.agg #[.int .i64 v.kind, a, b]] w (TellsT (groupT v) w) := by
  have G1 := Lib.hid (fun h => @groupT1 v h)
  have G2 := Lib.hid (fun h => @groupT2 v h)
  have G3 := Lib.hid (fun h => @groupT3 v h)
  have G4 := Lib.hid (fun h1 h2 h3 => @groupT4 v h1 h2 h3)
  have HLEN := Lib.hid hlen
  have HR := Lib.hid h
  unfold rightG at HR
  obtain ⟨T, hT⟩ : ∃ T, groupT v = T := ⟨_, rfl⟩
  rw [hT] at G1 G2 G3 G4 HLEN ⊢
  clear hlen h hT
  obtain ⟨kind, cols, sets⟩ := v
  simp only at hA hB HR G1 G2 G3 G4 ⊢
  obtain ⟨A1, n1, c1, rfl⟩ : ∃ A1 n1 c1, a = .slice A1 n1 c1 := by obtain ⟨A1, c1, e, _⟩ := hA; exact ⟨_, _, _, e⟩
  obtain ⟨A2, n2, c2, rfl⟩ : ∃ A2 n2 c2, b = .slice A2 n2 c2 := by obtain ⟨A2, c2, e, _⟩ := hB; exact ⟨_, _, _, e⟩
  obtain ⟨w1, hw1⟩ : ∃ w1, w.alloc (.cells #[.int .i64 kind, .slice A1 n1 c1, .slice A2 n2 c2] 66) = w1 := ⟨_, rfl⟩
  obtain ⟨y, hy⟩ : ∃ y, w.heap.size = y := ⟨_, rfl⟩
  have f1 : Fr No w w1 := by rw [← hw1]; exact (Fr.refl No w).alloc _
  have hb : Blk w1 y 66 #[.int .i64 kind, .slice A1 n1 c1, .slice A2 n2 c2] := by rw [← hw1, ← hy]; exact Blk.new w 66 _
  have d0 : w1.cell? ⟨y, 0, none⟩ = some (.int .i64 kind) := hb.cell 0
  have d1 : w1.cell? ⟨y, 1, none⟩ = some (.slice A1 n1 c1) := hb.cell 1
  have d2 : w1.cell? ⟨y, 2, none⟩ = some (.slice A2 n2 c2) := hb.cell 2
  have HA := Lib.hid (hA.at_ strG_elem f1)
  have HB := Lib.hid (hB.at_ lsG_elem f1)
  have HPV := Lib.hid (hp.no f1)
  have HF1 := Lib.hid f1
  have HW1 := Lib.hid hw1
  have HY := Lib.hid hy
  clear f1 hb hw1 hy hp hA hB
  by_cases k1 : kind = 1
  · subst k1
    have hr := HR.out
    rw [if_pos rfl] at hr
    simp only [Bool.and_eq_true] at hr
    obtain ⟨l1, l2, -⟩ := rightL_len hr.2
    obtain ⟨t, rfl⟩ : ∃ t, cols = [t] := by
      match cols, l1, l2 with
      | [t], _, _ => exact ⟨t, rfl⟩
    obtain ⟨A, c, e, hlc, hcm, hrow⟩ := HA.out
    obtain ⟨g, off, e2, hK, hg, hel⟩ := hrow (by simp)
    obtain ⟨cs, hcl, hcs, hE⟩ := hel 0 (by simp)
    have hc0 := hcs 0 (by decide)
    rw [hE.1] at hc0
    have p0 : w1.cell? ⟨g, off, none⟩ = some (sv t) := by simpa using hc0
    have HV : Hid (T = t) := Lib.hid (G1.out rfl)
    injection e with e3 e4 e5
    rw [e2] at e3
    subst e3
    obtain rfl : n1 = 1 := e4
    clear hr l1 l2 hlc hcm hrow hel hcl hcs hE hc0 e5 e2 hK hg
    go_enter Tryz.func86, Tryz.ntmps86
    go_upto_region 1 with fail
    rw [HW1.out, HY.out]
    go_wp2_with fail
    go_ret
    exact ⟨by rw [HV.out]; rfl, HF1.out⟩
  · have k1' : (kind == 1) = false := by simpa using k1
    by_cases k2 : kind = 2
    · subst k2
      have hr := HR.out
      rw [if_neg (by decide), if_pos (.inl rfl)] at hr
      simp only [Bool.and_eq_true] at hr
      obtain ⟨l1, l2, -⟩ := rightL_len hr.2
      have hT := G2.out rfl
      have hl : (lstT cols).length ≤ 100000000 := by have := HLEN.out; rw [hT, List.length_append] at this; omega
      have HC := Lib.hid (listtext_any w1 HA.out (by omega) (by have := lstT_len cols; omega))
      obtain ⟨X, hX⟩ : ∃ X, lstT cols = X := ⟨_, rfl⟩
      rw [hX] at HC hT hl
      have a1 : ∀ w0, (Op.stringOp .add ⟨#[82, 79, 76, 76, 85, 80]⟩ ⟨X.toArray⟩).run Tryz.prog w0 = .ok (.string ⟨([82, 79, 76, 76, 85, 80] ++ X).toArray⟩) w0 := fun w0 => run_cat [82, 79, 76, 76, 85, 80] X (by unfold maxLen; simp; omega) w0
      rw [← hT] at a1
      clear hr l1 l2 hT hl hX
      go_enter Tryz.func86, Tryz.ntmps86
      go_upto_region 1 with fail
      rw [HW1.out, HY.out]
      go_wp2_with fail
      refine HC.out.mono ?_
      rintro e w2 ⟨rfl, f2⟩
      have HF2 := Lib.hid (HF1.out.trans f2 fun _ _ h => h)
      clear f2
      go_wp2_with fail
      go_ret
      exact ⟨rfl, HF2.out⟩
    · have k2' : (kind == 2) = false := by simpa using k2
      by_cases k3 : kind = 3
      · subst k3
        have hr := HR.out
        rw [if_neg (by decide), if_pos (.inr rfl)] at hr
        simp only [Bool.and_eq_true] at hr
        obtain ⟨l1, l2, -⟩ := rightL_len hr.2
        have hT := G3.out rfl
        have hl : (lstT cols).length ≤ 100000000 := by have := HLEN.out; rw [hT, List.length_append] at this; omega
        have HC := Lib.hid (listtext_any w1 HA.out (by omega) (by have := lstT_len cols; omega))
        obtain ⟨X, hX⟩ : ∃ X, lstT cols = X := ⟨_, rfl⟩
        rw [hX] at HC hT hl
        have a1 : ∀ w0, (Op.stringOp .add ⟨#[67, 85, 66, 69]⟩ ⟨X.toArray⟩).run Tryz.prog w0 = .ok (.string ⟨([67, 85, 66, 69] ++ X).toArray⟩) w0 := fun w0 => run_cat [67, 85, 66, 69] X (by unfold maxLen; simp; omega) w0
        rw [← hT] at a1
        clear hr l1 l2 hT hl hX
        go_enter Tryz.func86, Tryz.ntmps86
        go_upto_region 1 with fail
        rw [HW1.out, HY.out]
        go_wp2_with fail
        refine HC.out.mono ?_
        rintro e w2 ⟨rfl, f2⟩
        have HF2 := Lib.hid (HF1.out.trans f2 fun _ _ h => h)
        clear f2
        go_wp2_with fail
        go_ret
        exact ⟨rfl, HF2.out⟩
      · have k3' : (kind == 3) = false := by simpa using k3
        have hr := HR.out
        rw [if_neg k1, if_neg (by rintro (h | h); exact k2 h; exact k3 h)] at hr
        split at hr
        · rename_i hk4
          subst hk4
          simp only [Bool.and_eq_true] at hr
          obtain ⟨l1, l2, l3⟩ := rightL_len hr.2
          have hT := G4.out k1 k2 k3
          have hl : (jn (sets.map lstT)).length ≤ 100000000 := by have := HLEN.out; rw [hT, List.length_append, List.length_append] at this; omega
          have HC := Lib.hid (joined135_any w1 HPV.out HB.out l1 l2 (fun x hx => by have := (rightL_len (l3 x hx)).2.1; omega) hl)
          obtain ⟨X, hX⟩ : ∃ X, jn (sets.map lstT) = X := ⟨_, rfl⟩
          rw [hX] at HC hT hl
          have a1 : ∀ w0, (Op.stringOp .add ⟨#[71, 82, 79, 85, 80, 73, 78, 71, 32, 83, 69, 84, 83, 40]⟩ ⟨X.toArray⟩).run Tryz.prog w0 = .ok (.string ⟨([71, 82, 79, 85, 80, 73, 78, 71, 32, 83, 69, 84, 83, 40] ++ X).toArray⟩) w0 := fun w0 => run_cat [71, 82, 79, 85, 80, 73, 78, 71, 32, 83, 69, 84, 83, 40] X (by unfold maxLen; simp; omega) w0
          have a2 : ∀ w0, (Op.stringOp .add ⟨([71, 82, 79, 85, 80, 73, 78, 71, 32, 83, 69, 84, 83, 40] ++ X).toArray⟩ ⟨#[41]⟩).run Tryz.prog w0 = .ok (.string ⟨([71, 82, 79, 85, 80, 73, 78, 71, 32, 83, 69, 84, 83, 40] ++ X ++ [41]).toArray⟩) w0 := fun w0 => run_cat _ [41] (by unfold maxLen; simp; omega) w0
          rw [← hT] at a2
          obtain ⟨Y, hY⟩ : ∃ Y, [71, 82, 79, 85, 80, 73, 78, 71, 32, 83, 69, 84, 83, 40] ++ X = Y := ⟨_, rfl⟩
          rw [hY] at a1 a2
          clear hr l1 l2 l3 hT hl hX hY
          go_enter Tryz.func86, Tryz.ntmps86
          go_upto_region 1 with fail
          rw [HW1.out, HY.out]
          go_wp2_with fail
          refine HC.out.mono ?_
          rintro e w2 ⟨rfl, f2⟩
          have HF2 := Lib.hid (HF1.out.trans f2 fun _ _ h => h)
          clear f2
          go_wp2_with fail
          go_ret
          exact ⟨rfl, HF2.out⟩
        · cases hr

set_option maxRecDepth 100000 in
set_option maxHeartbeats 4000000 in
theorem joined85_any {K : Nat → Prop} {l : List Gp} {v : Value} (w : World) (hp : Pv w) (h : RowE K w 3 (gpG K w) v l) (h1 : 1 ≤ l.length) (h64 : l.length ≤ 64) (hok : ∀ x ∈ l, rightG x = true) (hlen : (jn (l.map groupT)).length ≤ 100000000) :
    Calls Tryz.prog 85 #[v, .func (.func 86) #[] #[]] w (TellsT (jn (l.map groupT)) w) := by
  obtain ⟨A, c, rfl, hlc, hcm, hrow⟩ := h
  obtain ⟨n, hn⟩ : ∃ n, l.length = n := ⟨_, rfl⟩
  obtain ⟨b, hb⟩ : ∃ b, w.heap.size = b := ⟨_, rfl⟩
  obtain ⟨i0, hi, hz0, hz1, hz2⟩ := info_parts (show (Tryz.prog.info? 9).map (fun i => (i.zero, i.size, i.bytes)) = some (some (.string ⟨#[]⟩), 1, 16) by kernel_rfl)
  rw [hn] at hlc h1 h64 ⊢
  obtain ⟨w0, hms, how, hgr⟩ := run_make_own (P := Tryz.prog) (w := w) b 52 9 i0 (.string ⟨#[]⟩) 1 Tryz.underlying52 hi hz0 hz1 .i64 .i64 n (by rw [hz2]; omega) (by unfold maxLen; omega) (by omega)
  have f0 : Fr No w w0 := (Fr.refl No w).grown hgr (fun k h _ => by cases h)
  rw [hb] at hms how
  have hg0 : Grow b 9 1 strG w0 (.slice (some ⟨b, 0, none⟩) 0 n) [] := ⟨No, [], how, fun j hj => absurd hj (by simp), fun k hk => hk.elim⟩
  have HROW := Lib.hid hrow
  have HN := Lib.hid hn
  have HB := Lib.hid hb
  have HP := Lib.hid hp
  have HOK := Lib.hid hok
  have HF0 := Lib.hid f0
  have HG0 := Lib.hid hg0
  have HLEN := Lib.hid hlen
  unfold maxLen at hcm
  clear hrow hp hn hok hb f0 hg0 hlen hi hz0 hz1 hz2 how hgr
  go_enter Tryz.func85, Tryz.ntmps85
  go_wp2_with fail
  go_loopg [5, 7, 13] n (fun k r5 r7 r13 wr => Hid (∃ j : Nat, r13 = .int .i64 (j : Nat) ∧ j + k = n ∧ Fr No w wr ∧ Grow b 9 1 strG wr r5 ((l.take j).map groupT)))
  case atStart => exact Lib.hid ⟨0, rfl, by omega, HF0.out, HG0.out⟩
  case round =>
    obtain ⟨j, rfl, hjn, hf, hgw⟩ := hrel.out
    obtain ⟨A5, c5, rfl⟩ := hgw.len
    obtain ⟨L5, hL5⟩ : ∃ L5, (l.take j).map groupT = L5 := ⟨_, rfl⟩
    have hlt5 : L5.length = j := by rw [← hL5, List.length_map, List.length_take, HN.out]; omega
    rw [hL5] at hgw
    have HLT := Lib.hid hlt5
    have HL5 := Lib.hid hL5
    have HG := Lib.hid hgw
    simp only [hL5, hlt5]
    rw [hlt5] at HG
    clear hrel hgw hlt5 hL5
    by_cases hj : j < n
    · have hji : (j : Int) < (n : Int) := by omega
      have hjl : j < l.length := by rw [HN.out]; exact hj
      obtain ⟨g, off, rfl, hK, hg, hel⟩ := HROW.out (by omega)
      obtain ⟨cs, hcl, hcs, hE⟩ := hel j hjl
      have hokx := HOK.out l[j] (List.getElem_mem hjl)
      have hmt := map_take (f := groupT) hjl
      rw [HL5.out] at hmt
      obtain ⟨x, hx⟩ : ∃ x, l[j] = x := ⟨_, rfl⟩
      rw [hx] at hE hokx hmt
      have HMT := Lib.hid hmt
      have hjn2 : (jn (l.map groupT)).length ≤ 100000000 := HLEN.out
      have hxle : (groupT x).length ≤ 100000000 := Nat.le_trans (jn_mem (f := groupT) (x := x) (hx ▸ List.getElem_mem hjl)) hjn2
      obtain ⟨u0, v0, hE, _, hR, hS⟩ := hE
      obtain ⟨A1, n1, d1, rfl⟩ : ∃ A1 n1 d1, u0 = .slice A1 n1 d1 := by obtain ⟨A, c, e, _⟩ := hR; exact ⟨_, _, _, e⟩
      obtain ⟨A2, n2, d2, rfl⟩ : ∃ A1 n1 d1, v0 = .slice A1 n1 d1 := by obtain ⟨A, c, e, _⟩ := hS; exact ⟨_, _, _, e⟩
      have p0 : wr.cell? ⟨g, off + j * 3, none⟩ = some (.int .i64 x.kind) := (cell_of_heap (hf.block g hg id)).trans (by have := hcs 0 (by decide); rw [hE] at this; simpa using this)
      have p1 : wr.cell? ⟨g, off + j * 3 + 1, none⟩ = some (.slice A1 n1 d1) := (cell_of_heap (hf.block g hg id)).trans (by have := hcs 1 (by decide); rw [hE] at this; simpa using this)
      have p2 : wr.cell? ⟨g, off + j * 3 + 2, none⟩ = some (.slice A2 n2 d2) := (cell_of_heap (hf.block g hg id)).trans (by have := hcs 2 (by decide); rw [hE] at this; simpa using this)
      obtain ⟨wn, hwn⟩ : ∃ wn, wr.alloc (.cells #[.int .i64 x.kind, .slice A1 n1 d1, .slice A2 n2 d2] 66) = wn := ⟨_, rfl⟩
      obtain ⟨y, hy⟩ : ∃ y, wr.heap.size = y := ⟨_, rfl⟩
      have f1 : Fr No wr wn := by rw [← hwn]; exact (Fr.refl No wr).alloc _
      have hb : Blk wn y 66 #[.int .i64 x.kind, .slice A1 n1 d1, .slice A2 n2 d2] := by rw [← hwn, ← hy]; exact Blk.new wr 66 _
      have m0 : wn.cell? ⟨y, 0, none⟩ = some (.int .i64 x.kind) := hb.cell 0
      have m1 : wn.cell? ⟨y, 1, none⟩ = some (.slice A1 n1 d1) := hb.cell 1
      have m2 : wn.cell? ⟨y, 2, none⟩ = some (.slice A2 n2 d2) := hb.cell 2
      have HWN := Lib.hid hwn
      have HY := Lib.hid hy
      have HFN := Lib.hid (hf.trans f1 fun _ _ h => h)
      have HGN := Lib.hid (HG.out.keep strG_elem f1 (fun _ h => h.elim))
      clear hb hwn hy f1
      have HC := Lib.hid (grouptext_any x wn (HP.out.no HFN.out) (hR.at_ strG_elem HFN.out) (hS.at_ lsG_elem HFN.out) hokx hxle)
      have HXL := Lib.hid hxle
      clear hcs hcl hel hK hf hE hx hmt hjn2 hokx hxle hR hS
      go_upto_region 5 with fail
      rw [HY.out, HWN.out]
      go_wp2_with fail
      refine HC.out.mono ?_
      clear HC
      rintro e w5 ⟨rfl, f5⟩
      have hg5 := HGN.out.keep strG_elem f5 (fun _ h => h.elim)
      have hf5 := HFN.out.trans f5 fun _ _ h => h
      have hxm : E9 (groupT x) := by have := HXL.out; unfold E9; unfold maxLen; omega
      have HJN : Hid (j ≤ 64) := Lib.hid (by omega)
      rw [← HLT.out] at hg5
      obtain ⟨A', c', w6, hrun, hg6, hfr6, hlt6⟩ := Grow.more (bytes := 16) strG_elem (w0 := w5) hg5 (by have := hf5.size; have := HB.out; omega) (Nat.le_refl _) (fun k hk => (hg5.lt k hk).2) 52 Tryz.underlying52 (.string ⟨#[]⟩) (by kernel_rfl) rfl (by decide) (groupT x) [sv (groupT x)] rfl (by simp [Value.oneCell']) ⟨rfl, hxm⟩ (by rw [HLT.out]; omega) (by rw [HLT.out]; unfold maxLen; omega)
      have HF6 : Hid (Fr No w w6) := Lib.hid (hf5.own hfr6 fun k hk => by have := (hg5.lt k hk).1; have := HB.out; omega)
      rw [← HMT.out] at hg6
      have HG6 := Lib.hid hg6
      have HRUN := Lib.hid hrun
      rw [HLT.out] at HRUN HG6
      obtain ⟨X, hX⟩ : ∃ X, groupT x = X := ⟨_, rfl⟩
      rw [hX] at HRUN
      rw [hX]
      have HW5 : Hid (∀ ty, (Builtin.append_ #[52, 52] ty #[.slice A5 j c5, .slice (some ⟨w5.heap.size, 0, none⟩) 1 1]).run Tryz.prog (w5.alloc (.cells #[sv X] 9)) = .ok (.slice A' (j + 1) c') w6) := HRUN
      clear hg5 hf5 hg6 hfr6 hlt6 hrun f5 hxm hX HRUN
      go_wp2_with (at_builtin; refine wpList_add rfl _ _ _ _ rfl _ _ _ _ rfl rfl (HW5.out _) ?_)
      obtain ⟨g1, rfl⟩ : ∃ g1, gk = g1 + 1 := ⟨gk - 1, by omega⟩
      go_roundg g1
      case rel => exact Lib.hid ⟨j + 1, by go_num, by omega, HF6.out, HG6.out⟩
      all_goals omega
    · have hji : (n : Int) ≤ (j : Int) := by omega
      obtain rfl : j = n := by omega
      have hrow2 := HG.out
      rw [← HLT.out] at hrow2
      have hrow3 := hrow2.row strG_elem
      rw [HLT.out, ← HL5.out, List.take_of_length_le (by rw [HN.out]; omega)] at hrow3
      have HJ := Lib.hid (join_any wr hrow3 (by rw [List.length_map, HN.out]; omega) (by have := HLEN.out; omega))
      have HFE := Lib.hid hf
      clear hf hrow2 hrow3
      go_wp2_with fail
      refine HJ.out.mono ?_
      rintro e w5 ⟨rfl, f5⟩
      have HF5 := Lib.hid (HFE.out.trans f5 fun _ _ h => h)
      clear f5
      go_wp2_with fail
      go_ret
      exact ⟨rfl, HF5.out⟩
end Go.Proofs.YtkcnbmgaeompjaaGreatDoor
/- A test's text, walked. -/
namespace Go.Proofs.YtkcnbmgaeompjaaGreatDoor
open Go.RowKit Go.Maps
set_option linter.unusedVariables false

def testT (k : Int) (col : Tx) (op : Int) (vals : List Vl) : Tx := txt [] (testP k col op vals [])
theorem test_txt (k : Int) (col : Tx) (op : Int) (vals : List Vl) (g z : Tx) : txt z (testP k col op vals g) = g ++ (if k = 5 then col ++ [32, 73, 78, 32, 40] ++ jn (vals.map valT) ++ [41] else col ++ [32] ++ signsT.getD op.toNat [] ++ [32] ++ valT (vals.headD ⟨false, [], 0⟩)) ++ z := by
  unfold testP
  split
  · show g ++ (col ++ ([32] ++ ([73, 78] ++ txt z (brk [32] (sepP valP [] vals))))) = _
    rw [brk_txt [32] z _ (jn (vals.map valT)) fun z => by rw [sep_txt val_shows [] z vals (.inr rfl)]; simp]
    simp
  · show g ++ (col ++ ([32] ++ (signsT.getD op.toNat [] ++ txt z (valP [32] (vals.headD ⟨false, [], 0⟩))))) = _
    rw [val_shows]
    simp
theorem testT5 (col : Tx) (op : Int) (vals : List Vl) : testT 5 col op vals = col ++ [32, 73, 78, 32, 40] ++ jn (vals.map valT) ++ [41] := by unfold testT; rw [test_txt]; simp
theorem testT4 (col : Tx) (op : Int) (v : Vl) : testT 4 col op [v] = col ++ [32] ++ signsT.getD op.toNat [] ++ [32] ++ valT v := by unfold testT; rw [test_txt]; simp
set_option maxRecDepth 100000 in
set_option maxHeartbeats 4000000 in
theorem testtext_any {K : Nat → Prop} {w : World} {g o : Nat} {k : Int} {L R : Value} {col : Tx} {op : Int} {V : Value} {vals : List Vl} (hp : Pv w) (h : NodeC w g o k L R col op V) (hr : RowE K w 3 (vlG K w) V vals) (hg : g < w.heap.size) (ht : testR k col op vals = true) (hlen : (testT k col op vals).length ≤ 100000000) :
    Calls Tryz.prog 155 #[.pointer (some ⟨g, o, none⟩)] w (TellsT (testT k col op vals) w) := by
  obtain ⟨A, n, c, rfl⟩ : ∃ A n c, V = .slice A n c := by obtain ⟨A, c, e, _⟩ := hr; exact ⟨_, _, _, e⟩
  have fd := (Fr.refl No w).drew
  have HFD := Lib.hid fd
  have hd := h.of (fd.block g hg id)
  have HAT : Hid (∀ w', Fr No w w' → NodeC w' g o k L R col op (.slice A n c) ∧ Pv w') := Lib.hid fun w' f' => ⟨h.of (f'.block g hg id), hp.no f'⟩
  obtain ⟨c0, -, -, c3, c4, c5⟩ := h
  by_cases k4 : k = 4
  · subst k4
    obtain ⟨h1, h2, h3, h4⟩ : isNameB col = true ∧ 1 ≤ op ∧ op ≤ 6 ∧ rightL vals 1 1 rightV = true := by
      unfold testR at ht
      rw [if_pos rfl] at ht
      simp only [Bool.and_eq_true, decide_eq_true_eq] at ht
      exact ⟨ht.1.1.1, ht.1.1.2, ht.1.2, ht.2⟩
    obtain ⟨l1, l2, l3⟩ := rightL_len h4
    obtain ⟨v, rfl⟩ : ∃ v, vals = [v] := by
      match vals, l1, l2 with
      | [v], _, _ => exact ⟨v, rfl⟩
    obtain ⟨A', c', e, hlc, hcm, hrow⟩ := hr
    obtain ⟨g2, off, e2, hK, hg2, hel⟩ := hrow (by simp)
    obtain ⟨cs, hcl, hcs, hE⟩ := hel 0 (by simp)
    obtain ⟨hE1, hE2, hE3⟩ := hE
    injection e with e3 e4 e5
    rw [e2] at e3
    subst e3
    obtain rfl : n = 1 := e4
    obtain ⟨q, rfl⟩ : ∃ q : Nat, op = (q : Nat) := ⟨op.toNat, by omega⟩
    have hq7 : (q : Int) < 7 := by omega
    have hv : ∀ w', Fr No w w' → w'.cell? ⟨g, o + 3, none⟩ = some (sv col) ∧ w'.cell? ⟨g, o + 4, none⟩ = some (.int .i64 (q : Nat)) ∧ w'.cell? ⟨g, o + 5, none⟩ = some (.slice (some ⟨g2, off, none⟩) 1 c) ∧ w'.cell? ⟨3, q, none⟩ = some (sv (signsT.getD q [])) ∧ w'.cell? ⟨g2, off, none⟩ = some (.bool v.isText) ∧ w'.cell? ⟨g2, off + 1, none⟩ = some (sv v.text) ∧ w'.cell? ⟨g2, off + 2, none⟩ = some (.int .i64 v.int) := fun w' f' => by
      obtain ⟨a1, a2⟩ := HAT.out w' f'
      refine ⟨a1.c3, a1.c4, a1.c5, a2.signs q (by omega), ?_, ?_, ?_⟩ <;> refine (cell_of_heap (f'.block g2 hg2 id)).trans ?_
      · have := hcs 0 (by decide); rw [hE1] at this; simpa using this
      · have := hcs 1 (by decide); rw [hE1] at this; simpa using this
      · have := hcs 2 (by decide); rw [hE1] at this; simpa using this
    have HT := Lib.hid (testT4 col (q : Nat) v)
    have HC := Lib.hid (valuetext_any v w.drew (HAT.out _ fd).2 (l3 v (by simp)) hE3)
    have hxl : (valT v).length ≤ 100000000 := by rw [HT.out, List.length_append] at hlen; omega
    have hcol : col.length ≤ 32 := by unfold isNameB at h1; simp at h1; exact h1.2
    have hsg : (signsT.getD q []).length ≤ 8 := by
      have : ∀ q, q < 7 → (signsT.getD q []).length ≤ 8 := by decide
      exact this q (by omega)
    have HT2 : Hid (testT 4 col (q : Nat) [v] = col ++ [32] ++ signsT.getD q [] ++ [32] ++ valT v) := HT
    generalize valT v = X at *
    generalize hS : signsT.getD q [] = S at *
    have a1 : ∀ w0, (Op.stringOp .add ⟨col.toArray⟩ ⟨#[32]⟩).run Tryz.prog w0 = .ok (.string ⟨(col ++ [32]).toArray⟩) w0 := fun w0 => run_cat col [32] (by unfold maxLen; simp; omega) w0
    have a2 : ∀ w0, (Op.stringOp .add ⟨(col ++ [32]).toArray⟩ ⟨S.toArray⟩).run Tryz.prog w0 = .ok (.string ⟨(col ++ [32] ++ S).toArray⟩) w0 := fun w0 => run_cat _ S (by unfold maxLen; simp; omega) w0
    have a3 : ∀ w0, (Op.stringOp .add ⟨(col ++ [32] ++ S).toArray⟩ ⟨#[32]⟩).run Tryz.prog w0 = .ok (.string ⟨(col ++ [32] ++ S ++ [32]).toArray⟩) w0 := fun w0 => run_cat _ [32] (by unfold maxLen; simp; omega) w0
    have a4 : ∀ w0, (Op.stringOp .add ⟨(col ++ [32] ++ S ++ [32]).toArray⟩ ⟨X.toArray⟩).run Tryz.prog w0 = .ok (.string ⟨(col ++ [32] ++ S ++ [32] ++ X).toArray⟩) w0 := fun w0 => run_cat _ X (by unfold maxLen; simp; omega) w0
    obtain ⟨X1, hX1⟩ : ∃ Z, col ++ [32] = Z := ⟨_, rfl⟩
    rw [hX1] at a1 a2 a3 a4 HT2
    obtain ⟨X2, hX2⟩ : ∃ Z, X1 ++ S = Z := ⟨_, rfl⟩
    rw [hX2] at a2 a3 a4 HT2
    obtain ⟨X3, hX3⟩ : ∃ Z, X2 ++ [32] = Z := ⟨_, rfl⟩
    rw [hX3] at a3 a4 HT2
    obtain ⟨X4, hX4⟩ : ∃ Z, X3 ++ X = Z := ⟨_, rfl⟩
    rw [hX4] at a4 HT2
    have HS := Lib.hid hv
    have HS0 := Lib.hid (hv _ fd)
    clear hX1 hX2 hX3 hX4 HT hv hxl hcol hsg ht hlen h1 h2 h3 h4 l1 l2 l3 hlc hcm hrow hK hel hcl hcs hE1 hE2 hE3 e2 e5 hp hd fd hS c3 c4 c5
    go_enter Tryz.func155, Tryz.ntmps155
    go_upto_region 3 with fail
    refine wp_region_held_drew (S := fun w' => w'.cell? ⟨g, o + 3, none⟩ = some (sv col) ∧ w'.cell? ⟨g, o + 4, none⟩ = some (.int .i64 (q : Nat)) ∧ w'.cell? ⟨g, o + 5, none⟩ = some (.slice (some ⟨g2, off, none⟩) 1 c) ∧ w'.cell? ⟨3, q, none⟩ = some (sv S) ∧ w'.cell? ⟨g2, off, none⟩ = some (.bool v.isText) ∧ w'.cell? ⟨g2, off + 1, none⟩ = some (sv v.text) ∧ w'.cell? ⟨g2, off + 2, none⟩ = some (.int .i64 v.int)) (by kernel_rfl) (HS0.out) (fun hHeld => ?_)
    refine wpAnyH_take (i := 0) (oi := ({ dst := some 20, op := Go.Op.move (Go.Operand.tmp 0), type := 24, pos := "show.go:97", after := #[], guard := none } : Go.Oper)) (v := ?_) rfl (by kernel_rfl) (by kernel_rfl) (by kernel_rfl) (fun _ _ _ h => h) (Or.inl ⟨by rfl, ?_⟩) (by assumption) ?_
    rotate_left 1
    · intro w hSw; (try dsimp only at hSw); first | (go_simp; done) | (go_simp; with_reducible rfl)
    try simp only [Act.put, List.setIfInBounds_toArray, List.set_cons_zero, List.set_cons_succ]
    refine wpAnyH_take (i := 1) (oi := ({ dst := some 21, op := Go.Op.nilCheck (Go.Operand.tmp 20), type := 0, pos := "show.go:97", after := #[{ on := 0, ground := Go.Ground.data }], guard := none } : Go.Oper)) (v := ?_) rfl (by kernel_rfl) (by kernel_rfl) (by kernel_rfl) (fun _ _ _ h => h) (Or.inl ⟨by rfl, ?_⟩) (by assumption) ?_
    rotate_left 1
    · intro w hSw; (try dsimp only at hSw); first | (go_simp; done) | (go_simp; with_reducible rfl)
    try simp only [Act.put, List.setIfInBounds_toArray, List.set_cons_zero, List.set_cons_succ]
    refine wpAnyH_take (i := 2) (oi := ({ dst := some 22, op := Go.Op.fieldAddr 50 (Go.Operand.tmp 21) 3, type := 0, pos := "show.go:97", after := #[{ on := 1, ground := Go.Ground.data }], guard := none } : Go.Oper)) (v := ?_) rfl (by kernel_rfl) (by kernel_rfl) (by kernel_rfl) (fun _ _ _ h => h) (Or.inl ⟨by rfl, ?_⟩) (by assumption) ?_
    rotate_left 1
    · intro w hSw; (try dsimp only at hSw); first | (go_simp; done) | (go_simp; with_reducible rfl)
    try simp only [Act.put, List.setIfInBounds_toArray, List.set_cons_zero, List.set_cons_succ]
    refine wpAnyH_take (i := 3) (oi := ({ dst := some 23, op := Go.Op.load 9 (Go.Operand.tmp 22), type := 9, pos := "show.go:97", after := #[{ on := 2, ground := Go.Ground.data }], guard := none } : Go.Oper)) (v := ?_) rfl (by kernel_rfl) (by kernel_rfl) (by kernel_rfl) (fun _ _ _ h => h) (Or.inl ⟨by rfl, ?_⟩) (by assumption) ?_
    rotate_left 1
    · intro w hSw; (try dsimp only at hSw); first | (go_simp; done) | (go_simp; with_reducible rfl)
    try simp only [Act.put, List.setIfInBounds_toArray, List.set_cons_zero, List.set_cons_succ]
    refine wpAnyH_take (i := 4) (oi := ({ dst := some 24, op := Go.Op.binOp Go.BinOp.add 9 (Go.Operand.tmp 23) (Go.Operand.const (Go.Value.string { data := #[32] })) 9, type := 9, pos := "show.go:97", after := #[{ on := 3, ground := Go.Ground.data }], guard := none } : Go.Oper)) (v := ?_) rfl (by kernel_rfl) (by kernel_rfl) (by kernel_rfl) (fun _ _ _ h => h) (Or.inl ⟨by rfl, ?_⟩) (by assumption) ?_
    rotate_left 1
    · intro w hSw; (try dsimp only at hSw); first | (go_simp; done) | (go_simp; with_reducible rfl)
    try simp only [Act.put, List.setIfInBounds_toArray, List.set_cons_zero, List.set_cons_succ]
    refine wpAnyH_take (i := 5) (oi := ({ dst := some 25, op := Go.Op.move (Go.Operand.tmp 0), type := 24, pos := "show.go:97", after := #[], guard := none } : Go.Oper)) (v := ?_) rfl (by kernel_rfl) (by kernel_rfl) (by kernel_rfl) (fun _ _ _ h => h) (Or.inl ⟨by rfl, ?_⟩) (by assumption) ?_
    rotate_left 1
    · intro w hSw; (try dsimp only at hSw); first | (go_simp; done) | (go_simp; with_reducible rfl)
    try simp only [Act.put, List.setIfInBounds_toArray, List.set_cons_zero, List.set_cons_succ]
    refine wpAnyH_take (i := 6) (oi := ({ dst := some 26, op := Go.Op.nilCheck (Go.Operand.tmp 25), type := 0, pos := "show.go:97", after := #[{ on := 5, ground := Go.Ground.data }], guard := none } : Go.Oper)) (v := ?_) rfl (by kernel_rfl) (by kernel_rfl) (by kernel_rfl) (fun _ _ _ h => h) (Or.inl ⟨by rfl, ?_⟩) (by assumption) ?_
    rotate_left 1
    · intro w hSw; (try dsimp only at hSw); first | (go_simp; done) | (go_simp; with_reducible rfl)
    try simp only [Act.put, List.setIfInBounds_toArray, List.set_cons_zero, List.set_cons_succ]
    refine wpAnyH_take (i := 7) (oi := ({ dst := some 27, op := Go.Op.fieldAddr 50 (Go.Operand.tmp 26) 4, type := 0, pos := "show.go:97", after := #[{ on := 6, ground := Go.Ground.data }], guard := none } : Go.Oper)) (v := ?_) rfl (by kernel_rfl) (by kernel_rfl) (by kernel_rfl) (fun _ _ _ h => h) (Or.inl ⟨by rfl, ?_⟩) (by assumption) ?_
    rotate_left 1
    · intro w hSw; (try dsimp only at hSw); first | (go_simp; done) | (go_simp; with_reducible rfl)
    try simp only [Act.put, List.setIfInBounds_toArray, List.set_cons_zero, List.set_cons_succ]
    refine wpAnyH_take (i := 8) (oi := ({ dst := some 28, op := Go.Op.load 3 (Go.Operand.tmp 27), type := 3, pos := "show.go:97", after := #[{ on := 7, ground := Go.Ground.data }], guard := none } : Go.Oper)) (v := ?_) rfl (by kernel_rfl) (by kernel_rfl) (by kernel_rfl) (fun _ _ _ h => h) (Or.inl ⟨by rfl, ?_⟩) (by assumption) ?_
    rotate_left 1
    · intro w hSw; (try dsimp only at hSw); first | (go_simp; done) | (go_simp; with_reducible rfl)
    try simp only [Act.put, List.setIfInBounds_toArray, List.set_cons_zero, List.set_cons_succ]
    refine wpAnyH_take (i := 9) (oi := ({ dst := some 29, op := Go.Op.indexAddr 138 (Go.Operand.global 3) (Go.Operand.tmp 28), type := 0, pos := "show.go:97", after := #[{ on := 8, ground := Go.Ground.data }], guard := none } : Go.Oper)) (v := ?_) rfl (by kernel_rfl) (by kernel_rfl) (by kernel_rfl) (fun _ _ _ h => h) (Or.inl ⟨by rfl, ?_⟩) (by assumption) ?_
    rotate_left 1
    · intro w hSw; (try dsimp only at hSw); first | (go_simp; done) | (go_simp; with_reducible rfl)
    try simp only [Act.put, List.setIfInBounds_toArray, List.set_cons_zero, List.set_cons_succ]
    refine wpAnyH_take (i := 10) (oi := ({ dst := some 30, op := Go.Op.load 9 (Go.Operand.tmp 29), type := 9, pos := "show.go:97", after := #[{ on := 9, ground := Go.Ground.data }], guard := none } : Go.Oper)) (v := ?_) rfl (by kernel_rfl) (by kernel_rfl) (by kernel_rfl) (fun _ _ _ h => h) (Or.inl ⟨by rfl, ?_⟩) (by assumption) ?_
    rotate_left 1
    · intro w hSw; (try dsimp only at hSw); first | (go_simp; done) | (go_simp; with_reducible rfl)
    try simp only [Act.put, List.setIfInBounds_toArray, List.set_cons_zero, List.set_cons_succ]
    refine wpAnyH_take (i := 11) (oi := ({ dst := some 31, op := Go.Op.binOp Go.BinOp.add 9 (Go.Operand.tmp 24) (Go.Operand.tmp 30) 9, type := 9, pos := "show.go:97", after := #[{ on := 4, ground := Go.Ground.data }, { on := 10, ground := Go.Ground.data }], guard := none } : Go.Oper)) (v := ?_) rfl (by kernel_rfl) (by kernel_rfl) (by kernel_rfl) (fun _ _ _ h => h) (Or.inl ⟨by rfl, ?_⟩) (by assumption) ?_
    rotate_left 1
    · intro w hSw; (try dsimp only at hSw); first | (go_simp; done) | (go_simp; with_reducible rfl)
    try simp only [Act.put, List.setIfInBounds_toArray, List.set_cons_zero, List.set_cons_succ]
    refine wpAnyH_take (i := 12) (oi := ({ dst := some 32, op := Go.Op.binOp Go.BinOp.add 9 (Go.Operand.tmp 31) (Go.Operand.const (Go.Value.string { data := #[32] })) 9, type := 9, pos := "show.go:97", after := #[{ on := 11, ground := Go.Ground.data }], guard := none } : Go.Oper)) (v := ?_) rfl (by kernel_rfl) (by kernel_rfl) (by kernel_rfl) (fun _ _ _ h => h) (Or.inl ⟨by rfl, ?_⟩) (by assumption) ?_
    rotate_left 1
    · intro w hSw; (try dsimp only at hSw); first | (go_simp; done) | (go_simp; with_reducible rfl)
    try simp only [Act.put, List.setIfInBounds_toArray, List.set_cons_zero, List.set_cons_succ]
    refine wpAnyH_take (i := 13) (oi := ({ dst := some 33, op := Go.Op.move (Go.Operand.tmp 0), type := 24, pos := "show.go:97", after := #[], guard := none } : Go.Oper)) (v := ?_) rfl (by kernel_rfl) (by kernel_rfl) (by kernel_rfl) (fun _ _ _ h => h) (Or.inl ⟨by rfl, ?_⟩) (by assumption) ?_
    rotate_left 1
    · intro w hSw; (try dsimp only at hSw); first | (go_simp; done) | (go_simp; with_reducible rfl)
    try simp only [Act.put, List.setIfInBounds_toArray, List.set_cons_zero, List.set_cons_succ]
    refine wpAnyH_take (i := 14) (oi := ({ dst := some 34, op := Go.Op.nilCheck (Go.Operand.tmp 33), type := 0, pos := "show.go:97", after := #[{ on := 13, ground := Go.Ground.data }], guard := none } : Go.Oper)) (v := ?_) rfl (by kernel_rfl) (by kernel_rfl) (by kernel_rfl) (fun _ _ _ h => h) (Or.inl ⟨by rfl, ?_⟩) (by assumption) ?_
    rotate_left 1
    · intro w hSw; (try dsimp only at hSw); first | (go_simp; done) | (go_simp; with_reducible rfl)
    try simp only [Act.put, List.setIfInBounds_toArray, List.set_cons_zero, List.set_cons_succ]
    refine wpAnyH_take (i := 15) (oi := ({ dst := some 35, op := Go.Op.fieldAddr 50 (Go.Operand.tmp 34) 5, type := 0, pos := "show.go:97", after := #[{ on := 14, ground := Go.Ground.data }], guard := none } : Go.Oper)) (v := ?_) rfl (by kernel_rfl) (by kernel_rfl) (by kernel_rfl) (fun _ _ _ h => h) (Or.inl ⟨by rfl, ?_⟩) (by assumption) ?_
    rotate_left 1
    · intro w hSw; (try dsimp only at hSw); first | (go_simp; done) | (go_simp; with_reducible rfl)
    try simp only [Act.put, List.setIfInBounds_toArray, List.set_cons_zero, List.set_cons_succ]
    refine wpAnyH_take (i := 16) (oi := ({ dst := some 36, op := Go.Op.load 48 (Go.Operand.tmp 35), type := 48, pos := "show.go:97", after := #[{ on := 15, ground := Go.Ground.data }], guard := none } : Go.Oper)) (v := ?_) rfl (by kernel_rfl) (by kernel_rfl) (by kernel_rfl) (fun _ _ _ h => h) (Or.inl ⟨by rfl, ?_⟩) (by assumption) ?_
    rotate_left 1
    · intro w hSw; (try dsimp only at hSw); first | (go_simp; done) | (go_simp; with_reducible rfl)
    try simp only [Act.put, List.setIfInBounds_toArray, List.set_cons_zero, List.set_cons_succ]
    refine wpAnyH_take (i := 17) (oi := ({ dst := some 37, op := Go.Op.indexAddr 48 (Go.Operand.tmp 36) (Go.Operand.const (Go.Value.int Go.IntKind.i64 0)), type := 0, pos := "show.go:97", after := #[{ on := 16, ground := Go.Ground.data }], guard := none } : Go.Oper)) (v := ?_) rfl (by kernel_rfl) (by kernel_rfl) (by kernel_rfl) (fun _ _ _ h => h) (Or.inl ⟨by rfl, ?_⟩) (by assumption) ?_
    rotate_left 1
    · intro w hSw; (try dsimp only at hSw); first | (go_simp; done) | (go_simp; with_reducible rfl)
    try simp only [Act.put, List.setIfInBounds_toArray, List.set_cons_zero, List.set_cons_succ]
    refine wpAnyH_take (i := 18) (oi := ({ dst := some 38, op := Go.Op.load 47 (Go.Operand.tmp 37), type := 47, pos := "show.go:97", after := #[{ on := 17, ground := Go.Ground.data }], guard := none } : Go.Oper)) (v := ?_) rfl (by kernel_rfl) (by kernel_rfl) (by kernel_rfl) (fun _ _ _ h => h) (Or.inl ⟨by rfl, ?_⟩) (by assumption) ?_
    rotate_left 1
    · intro w hSw; (try dsimp only at hSw); first | (go_simp; done) | (go_simp; with_reducible rfl)
    try simp only [Act.put, List.setIfInBounds_toArray, List.set_cons_zero, List.set_cons_succ]
    refine wpAnyH_ready (rs := [19]) (by kernel_rfl) (by simp) ?_
    refine AllReadyH.cons (o := ({ dst := some 39, op := Go.Op.call { callee := Go.Callee.value (Go.Operand.func 167), args := #[Go.Operand.tmp 38], argTypes := #[47] }, type := 9, pos := "show.go:97", after := #[{ on := 18, ground := Go.Ground.data }], guard := none } : Go.Oper)) rfl (fun K hK => ?_) AllReadyH.nil
    go_simp
    (go_at_call 167; (with_reducible refine HC.out.mono ?_); rintro e w1 ⟨rfl, f1⟩; have HFC := Lib.hid (HFD.out.trans f1 fun _ _ h => h); have HSC := Lib.hid (HS.out w1 HFC.out); clear f1)
    try (go_wp2_with fail)
    refine hK.out _ _ (HSC.out) (fun hHeld1 => ?_)
    clear hK K
    try simp only [Act.put, List.setIfInBounds_toArray, List.set_cons_zero, List.set_cons_succ]
    refine wpAnyH_take (i := 20) (oi := ({ dst := some 40, op := Go.Op.binOp Go.BinOp.add 9 (Go.Operand.tmp 32) (Go.Operand.tmp 39) 9, type := 9, pos := "show.go:97", after := #[{ on := 12, ground := Go.Ground.data }, { on := 19, ground := Go.Ground.data }], guard := none } : Go.Oper)) (v := ?_) rfl (by kernel_rfl) (by kernel_rfl) (by kernel_rfl) (fun _ _ _ h => h) (Or.inl ⟨by rfl, ?_⟩) (by assumption) ?_
    rotate_left 1
    · intro w hSw; (try dsimp only at hSw); first | (go_simp; done) | (go_simp; with_reducible rfl)
    try simp only [Act.put, List.setIfInBounds_toArray, List.set_cons_zero, List.set_cons_succ]
    refine wpAnyH_take (i := 21) (oi := ({ dst := some 2, op := Go.Op.assign (Go.Operand.tmp 40), type := 9, pos := "show.go:97", after := #[{ on := 20, ground := Go.Ground.data }, { on := 19, ground := Go.Ground.chain }, { on := 0, ground := Go.Ground.phase }, { on := 1, ground := Go.Ground.phase }, { on := 2, ground := Go.Ground.phase }, { on := 3, ground := Go.Ground.phase }, { on := 4, ground := Go.Ground.phase }, { on := 5, ground := Go.Ground.phase }, { on := 6, ground := Go.Ground.phase }, { on := 7, ground := Go.Ground.phase }, { on := 8, ground := Go.Ground.phase }, { on := 9, ground := Go.Ground.phase }, { on := 10, ground := Go.Ground.phase }, { on := 11, ground := Go.Ground.phase }, { on := 12, ground := Go.Ground.phase }, { on := 13, ground := Go.Ground.phase }, { on := 14, ground := Go.Ground.phase }, { on := 15, ground := Go.Ground.phase }, { on := 16, ground := Go.Ground.phase }, { on := 17, ground := Go.Ground.phase }, { on := 18, ground := Go.Ground.phase }, { on := 19, ground := Go.Ground.phase }, { on := 20, ground := Go.Ground.phase }], guard := none } : Go.Oper)) (v := ?_) rfl (by kernel_rfl) (by kernel_rfl) (by kernel_rfl) (fun _ _ _ h => h) (Or.inl ⟨by rfl, ?_⟩) (by assumption) ?_
    rotate_left 1
    · intro w hSw; (try dsimp only at hSw); first | (go_simp; done) | (go_simp; with_reducible rfl)
    try simp only [Act.put, List.setIfInBounds_toArray, List.set_cons_zero, List.set_cons_succ]
    refine wpAnyH_done (by kernel_rfl) ?_ _
    go_wp2_with fail
    go_ret
    exact ⟨by rw [HT2.out]; rfl, HFC.out⟩
  · have k5 : k = 5 := by
      unfold testR at ht
      rw [if_neg k4] at ht
      split at ht
      · assumption
      · cases ht
    subst k5
    obtain ⟨h1, h4⟩ : isNameB col = true ∧ rightL vals 1 64 rightV = true := by
      unfold testR at ht
      rw [if_neg (by decide), if_pos rfl] at ht
      simp only [Bool.and_eq_true] at ht
      exact ⟨ht.1.1, ht.2⟩
    obtain ⟨l1, l2, l3⟩ := rightL_len h4
    have hv : ∀ w', Fr No w w' → w'.cell? ⟨g, o + 3, none⟩ = some (sv col) ∧ w'.cell? ⟨g, o + 5, none⟩ = some (.slice A n c) := fun w' f' => ⟨(HAT.out w' f').1.c3, (HAT.out w' f').1.c5⟩
    have hT := testT5 col op vals
    have hxl : (jn (vals.map valT)).length ≤ 100000000 := by rw [hT, List.length_append, List.length_append] at hlen; omega
    have HC := Lib.hid (joined166_any w.drew (HAT.out _ fd).2 (hr.at_ vlG_elem fd) l1 l2 l3 hxl)
    have hcol : col.length ≤ 32 := by unfold isNameB at h1; simp at h1; exact h1.2
    have HT2 := Lib.hid hT
    generalize jn (vals.map valT) = X at *
    have a1 : ∀ w0, (Op.stringOp .add ⟨col.toArray⟩ ⟨#[32, 73, 78, 32, 40]⟩).run Tryz.prog w0 = .ok (.string ⟨(col ++ [32, 73, 78, 32, 40]).toArray⟩) w0 := fun w0 => run_cat col [32, 73, 78, 32, 40] (by unfold maxLen; simp; omega) w0
    have a2 : ∀ w0, (Op.stringOp .add ⟨(col ++ [32, 73, 78, 32, 40]).toArray⟩ ⟨X.toArray⟩).run Tryz.prog w0 = .ok (.string ⟨(col ++ [32, 73, 78, 32, 40] ++ X).toArray⟩) w0 := fun w0 => run_cat _ X (by unfold maxLen; simp; omega) w0
    have a3 : ∀ w0, (Op.stringOp .add ⟨(col ++ [32, 73, 78, 32, 40] ++ X).toArray⟩ ⟨#[41]⟩).run Tryz.prog w0 = .ok (.string ⟨(col ++ [32, 73, 78, 32, 40] ++ X ++ [41]).toArray⟩) w0 := fun w0 => run_cat _ [41] (by unfold maxLen; simp; omega) w0
    obtain ⟨X1, hX1⟩ : ∃ Z, col ++ [32, 73, 78, 32, 40] = Z := ⟨_, rfl⟩
    rw [hX1] at a1 a2 a3 HT2
    obtain ⟨X2, hX2⟩ : ∃ Z, X1 ++ X = Z := ⟨_, rfl⟩
    rw [hX2] at a2 a3 HT2
    obtain ⟨X3, hX3⟩ : ∃ Z, X2 ++ [41] = Z := ⟨_, rfl⟩
    rw [hX3] at a3 HT2
    have HS := Lib.hid hv
    have HS0 := Lib.hid (hv _ fd)
    clear hX1 hX2 hX3 hT hv hxl hcol ht hlen h1 h4 l1 l2 l3 hp hd fd hr c3 c4 c5 k4
    go_enter Tryz.func155, Tryz.ntmps155
    go_upto_region 2 with fail
    refine wp_region_held_drew (S := fun w' => w'.cell? ⟨g, o + 3, none⟩ = some (sv col) ∧ w'.cell? ⟨g, o + 5, none⟩ = some (.slice A n c)) (by kernel_rfl) (HS0.out) (fun hHeld => ?_)
    refine wpAnyH_take (i := 0) (oi := ({ dst := some 8, op := Go.Op.move (Go.Operand.tmp 0), type := 24, pos := "show.go:95", after := #[], guard := none } : Go.Oper)) (v := ?_) rfl (by kernel_rfl) (by kernel_rfl) (by kernel_rfl) (fun _ _ _ h => h) (Or.inl ⟨by rfl, ?_⟩) (by assumption) ?_
    rotate_left 1
    · intro w hSw; (try dsimp only at hSw); first | (go_simp; done) | (go_simp; with_reducible rfl)
    try simp only [Act.put, List.setIfInBounds_toArray, List.set_cons_zero, List.set_cons_succ]
    refine wpAnyH_take (i := 1) (oi := ({ dst := some 9, op := Go.Op.nilCheck (Go.Operand.tmp 8), type := 0, pos := "show.go:95", after := #[{ on := 0, ground := Go.Ground.data }], guard := none } : Go.Oper)) (v := ?_) rfl (by kernel_rfl) (by kernel_rfl) (by kernel_rfl) (fun _ _ _ h => h) (Or.inl ⟨by rfl, ?_⟩) (by assumption) ?_
    rotate_left 1
    · intro w hSw; (try dsimp only at hSw); first | (go_simp; done) | (go_simp; with_reducible rfl)
    try simp only [Act.put, List.setIfInBounds_toArray, List.set_cons_zero, List.set_cons_succ]
    refine wpAnyH_take (i := 2) (oi := ({ dst := some 10, op := Go.Op.fieldAddr 50 (Go.Operand.tmp 9) 3, type := 0, pos := "show.go:95", after := #[{ on := 1, ground := Go.Ground.data }], guard := none } : Go.Oper)) (v := ?_) rfl (by kernel_rfl) (by kernel_rfl) (by kernel_rfl) (fun _ _ _ h => h) (Or.inl ⟨by rfl, ?_⟩) (by assumption) ?_
    rotate_left 1
    · intro w hSw; (try dsimp only at hSw); first | (go_simp; done) | (go_simp; with_reducible rfl)
    try simp only [Act.put, List.setIfInBounds_toArray, List.set_cons_zero, List.set_cons_succ]
    refine wpAnyH_take (i := 3) (oi := ({ dst := some 11, op := Go.Op.load 9 (Go.Operand.tmp 10), type := 9, pos := "show.go:95", after := #[{ on := 2, ground := Go.Ground.data }], guard := none } : Go.Oper)) (v := ?_) rfl (by kernel_rfl) (by kernel_rfl) (by kernel_rfl) (fun _ _ _ h => h) (Or.inl ⟨by rfl, ?_⟩) (by assumption) ?_
    rotate_left 1
    · intro w hSw; (try dsimp only at hSw); first | (go_simp; done) | (go_simp; with_reducible rfl)
    try simp only [Act.put, List.setIfInBounds_toArray, List.set_cons_zero, List.set_cons_succ]
    refine wpAnyH_take (i := 4) (oi := ({ dst := some 12, op := Go.Op.binOp Go.BinOp.add 9 (Go.Operand.tmp 11) (Go.Operand.const (Go.Value.string { data := #[32, 73, 78, 32, 40] })) 9, type := 9, pos := "show.go:95", after := #[{ on := 3, ground := Go.Ground.data }], guard := none } : Go.Oper)) (v := ?_) rfl (by kernel_rfl) (by kernel_rfl) (by kernel_rfl) (fun _ _ _ h => h) (Or.inl ⟨by rfl, ?_⟩) (by assumption) ?_
    rotate_left 1
    · intro w hSw; (try dsimp only at hSw); first | (go_simp; done) | (go_simp; with_reducible rfl)
    try simp only [Act.put, List.setIfInBounds_toArray, List.set_cons_zero, List.set_cons_succ]
    refine wpAnyH_take (i := 5) (oi := ({ dst := some 13, op := Go.Op.move (Go.Operand.tmp 0), type := 24, pos := "show.go:95", after := #[], guard := none } : Go.Oper)) (v := ?_) rfl (by kernel_rfl) (by kernel_rfl) (by kernel_rfl) (fun _ _ _ h => h) (Or.inl ⟨by rfl, ?_⟩) (by assumption) ?_
    rotate_left 1
    · intro w hSw; (try dsimp only at hSw); first | (go_simp; done) | (go_simp; with_reducible rfl)
    try simp only [Act.put, List.setIfInBounds_toArray, List.set_cons_zero, List.set_cons_succ]
    refine wpAnyH_take (i := 6) (oi := ({ dst := some 14, op := Go.Op.nilCheck (Go.Operand.tmp 13), type := 0, pos := "show.go:95", after := #[{ on := 5, ground := Go.Ground.data }], guard := none } : Go.Oper)) (v := ?_) rfl (by kernel_rfl) (by kernel_rfl) (by kernel_rfl) (fun _ _ _ h => h) (Or.inl ⟨by rfl, ?_⟩) (by assumption) ?_
    rotate_left 1
    · intro w hSw; (try dsimp only at hSw); first | (go_simp; done) | (go_simp; with_reducible rfl)
    try simp only [Act.put, List.setIfInBounds_toArray, List.set_cons_zero, List.set_cons_succ]
    refine wpAnyH_take (i := 7) (oi := ({ dst := some 15, op := Go.Op.fieldAddr 50 (Go.Operand.tmp 14) 5, type := 0, pos := "show.go:95", after := #[{ on := 6, ground := Go.Ground.data }], guard := none } : Go.Oper)) (v := ?_) rfl (by kernel_rfl) (by kernel_rfl) (by kernel_rfl) (fun _ _ _ h => h) (Or.inl ⟨by rfl, ?_⟩) (by assumption) ?_
    rotate_left 1
    · intro w hSw; (try dsimp only at hSw); first | (go_simp; done) | (go_simp; with_reducible rfl)
    try simp only [Act.put, List.setIfInBounds_toArray, List.set_cons_zero, List.set_cons_succ]
    refine wpAnyH_take (i := 8) (oi := ({ dst := some 16, op := Go.Op.load 48 (Go.Operand.tmp 15), type := 48, pos := "show.go:95", after := #[{ on := 7, ground := Go.Ground.data }], guard := none } : Go.Oper)) (v := ?_) rfl (by kernel_rfl) (by kernel_rfl) (by kernel_rfl) (fun _ _ _ h => h) (Or.inl ⟨by rfl, ?_⟩) (by assumption) ?_
    rotate_left 1
    · intro w hSw; (try dsimp only at hSw); first | (go_simp; done) | (go_simp; with_reducible rfl)
    try simp only [Act.put, List.setIfInBounds_toArray, List.set_cons_zero, List.set_cons_succ]
    refine wpAnyH_ready (rs := [9]) (by kernel_rfl) (by simp) ?_
    refine AllReadyH.cons (o := ({ dst := some 17, op := Go.Op.call { callee := Go.Callee.value (Go.Operand.func 166), args := #[Go.Operand.tmp 16, Go.Operand.func 167], argTypes := #[48, 123] }, type := 9, pos := "show.go:95", after := #[{ on := 8, ground := Go.Ground.data }], guard := none } : Go.Oper)) rfl (fun K hK => ?_) AllReadyH.nil
    go_simp
    (go_at_call 166; (with_reducible refine HC.out.mono ?_); rintro e w1 ⟨rfl, f1⟩; have HFC := Lib.hid (HFD.out.trans f1 fun _ _ h => h); have HSC := Lib.hid (HS.out w1 HFC.out); clear f1)
    try (go_wp2_with fail)
    refine hK.out _ _ (HSC.out) (fun hHeld1 => ?_)
    clear hK K
    try simp only [Act.put, List.setIfInBounds_toArray, List.set_cons_zero, List.set_cons_succ]
    refine wpAnyH_take (i := 10) (oi := ({ dst := some 18, op := Go.Op.binOp Go.BinOp.add 9 (Go.Operand.tmp 12) (Go.Operand.tmp 17) 9, type := 9, pos := "show.go:95", after := #[{ on := 4, ground := Go.Ground.data }, { on := 9, ground := Go.Ground.data }], guard := none } : Go.Oper)) (v := ?_) rfl (by kernel_rfl) (by kernel_rfl) (by kernel_rfl) (fun _ _ _ h => h) (Or.inl ⟨by rfl, ?_⟩) (by assumption) ?_
    rotate_left 1
    · intro w hSw; (try dsimp only at hSw); first | (go_simp; done) | (go_simp; with_reducible rfl)
    try simp only [Act.put, List.setIfInBounds_toArray, List.set_cons_zero, List.set_cons_succ]
    refine wpAnyH_take (i := 11) (oi := ({ dst := some 19, op := Go.Op.binOp Go.BinOp.add 9 (Go.Operand.tmp 18) (Go.Operand.const (Go.Value.string { data := #[41] })) 9, type := 9, pos := "show.go:95", after := #[{ on := 10, ground := Go.Ground.data }], guard := none } : Go.Oper)) (v := ?_) rfl (by kernel_rfl) (by kernel_rfl) (by kernel_rfl) (fun _ _ _ h => h) (Or.inl ⟨by rfl, ?_⟩) (by assumption) ?_
    rotate_left 1
    · intro w hSw; (try dsimp only at hSw); first | (go_simp; done) | (go_simp; with_reducible rfl)
    try simp only [Act.put, List.setIfInBounds_toArray, List.set_cons_zero, List.set_cons_succ]
    refine wpAnyH_take (i := 12) (oi := ({ dst := some 2, op := Go.Op.assign (Go.Operand.tmp 19), type := 9, pos := "show.go:95", after := #[{ on := 11, ground := Go.Ground.data }, { on := 9, ground := Go.Ground.chain }, { on := 0, ground := Go.Ground.phase }, { on := 1, ground := Go.Ground.phase }, { on := 2, ground := Go.Ground.phase }, { on := 3, ground := Go.Ground.phase }, { on := 4, ground := Go.Ground.phase }, { on := 5, ground := Go.Ground.phase }, { on := 6, ground := Go.Ground.phase }, { on := 7, ground := Go.Ground.phase }, { on := 8, ground := Go.Ground.phase }, { on := 9, ground := Go.Ground.phase }, { on := 10, ground := Go.Ground.phase }, { on := 11, ground := Go.Ground.phase }], guard := none } : Go.Oper)) (v := ?_) rfl (by kernel_rfl) (by kernel_rfl) (by kernel_rfl) (fun _ _ _ h => h) (Or.inl ⟨by rfl, ?_⟩) (by assumption) ?_
    rotate_left 1
    · intro w hSw; (try dsimp only at hSw); first | (go_simp; done) | (go_simp; with_reducible rfl)
    try simp only [Act.put, List.setIfInBounds_toArray, List.set_cons_zero, List.set_cons_succ]
    refine wpAnyH_done (by kernel_rfl) ?_ _
    go_wp2_with fail
    go_ret
    exact ⟨by rw [HT2.out]; rfl, HFC.out⟩
theorem strength_any {w : World} {g o : Nat} {k : Int} (h : w.cell? ⟨g, o, none⟩ = some (.int .i64 k)) : Calls Tryz.prog 132 #[.pointer (some ⟨g, o, none⟩)] w fun e w' => e = .returned (.int .i64 (strK k : Nat)) ∧ w = w' := by
  unfold strK
  by_cases k2 : k = 2
  · subst k2
    go_enter Tryz.func132, Tryz.ntmps132
    go_wp2_with fail
    go_ret
    exact ⟨rfl, rfl⟩
  · have k2' : (k == 2) = false := by simpa using k2
    rw [if_neg k2]
    by_cases k1 : k = 1
    · subst k1
      go_enter Tryz.func132, Tryz.ntmps132
      go_wp2_with fail
      go_ret
      exact ⟨rfl, rfl⟩
    · have k1' : (k == 1) = false := by simpa using k1
      rw [if_neg k1]
      by_cases k3 : k = 3
      · subst k3
        go_enter Tryz.func132, Tryz.ntmps132
        go_wp2_with fail
        go_ret
        exact ⟨rfl, rfl⟩
      · have k3' : (k == 3) = false := by simpa using k3
        rw [if_neg k3]
        go_enter Tryz.func132, Tryz.ntmps132
        go_wp2_with fail
        go_ret
        exact ⟨rfl, rfl⟩
end Go.Proofs.YtkcnbmgaeompjaaGreatDoor
/- A condition's text, walked. -/
namespace Go.Proofs.YtkcnbmgaeompjaaGreatDoor
open Go.RowKit Go.Maps
set_option linter.unusedVariables false

/-! ### plain -/
def nodeT (c : Cd) : Tx := txt [] (nodeP c [])
def condT (c : Cd) (least : Nat) : Tx := if least ≤ strK c.kind then nodeT c else [40] ++ nodeT c ++ [41]
theorem br_txt {T : Tx} {body : Tx → List Pc} (h : ∀ g z, txt z (body g) = g ++ T ++ z) (k : Int) (least : Nat) (g z : Tx) : txt z (brP k least body g) = g ++ (if least ≤ strK k then T else [40] ++ T ++ [41]) ++ z := by
  unfold brP
  split
  · exact h g z
  · exact brk_txt g z _ T fun z => by rw [h]; simp
theorem node_txt : ∀ (c : Cd), c ≠ .none → ∀ (deep n m : Nat), rightC c deep n = some m → ∀ g z, txt z (nodeP c g) = g ++ nodeT c ++ z
  | .none, hc, _, _, _, _, _, _ => absurd rfl hc
  | .node k l r col op vals, _, deep, n, m, hr, g, z => by
    have key : ∀ g z, txt z (nodeP (.node k l r col op vals) g) = g ++ (if k = 2 then condT l 0 ++ [32, 79, 82, 32] ++ condT r 1 else if k = 1 then condT l 1 ++ [32, 65, 78, 68, 32] ++ condT r 2 else if k = 3 then [78, 79, 84, 32] ++ condT l 2 else testT k col op vals) ++ z := by
      intro g z
      have hd : ∃ d, deep = d + 1 := by
        cases deep with
        | zero => unfold rightC at hr; rw [if_pos (.inl rfl)] at hr; cases hr
        | succ d => exact ⟨d, rfl⟩
      obtain ⟨d, rfl⟩ := hd
      have hn : ∃ d, n = d + 1 := by
        cases n with
        | zero => rw [rc_zero] at hr; cases hr
        | succ d => exact ⟨d, rfl⟩
      obtain ⟨n, rfl⟩ := hn
      by_cases k12 : k = 1 ∨ k = 2
      · rw [rc_two k12] at hr
        split at hr
        · obtain ⟨a, h1, h2⟩ := Option.bind_eq_some_iff.1 hr
          have hl : l ≠ .none := by rintro rfl; rw [right_none] at h1; cases h1
          have hr : r ≠ .none := by rintro rfl; rw [right_none] at h2; cases h2
          have il := node_txt l hl _ _ _ h1
          have ir := node_txt r hr _ _ _ h2
          unfold nodeP
          rcases k12 with rfl | rfl
          · rw [if_neg (by decide), if_pos rfl, if_neg (by decide), if_pos rfl, txt_app]
            show txt ([32] ++ ([65, 78, 68] ++ txt z (brP r.kind 2 (nodeP r) [32]))) (brP l.kind 1 (nodeP l) g) = _
            rw [br_txt il, br_txt ir]
            unfold condT
            simp
          · rw [if_pos rfl, if_pos rfl, txt_app]
            show txt ([32] ++ ([79, 82] ++ txt z (brP r.kind 1 (nodeP r) [32]))) (brP l.kind 0 (nodeP l) g) = _
            rw [br_txt il, br_txt ir]
            unfold condT
            simp
        · cases hr
      · have k1 : k ≠ 1 := fun e => k12 (.inl e)
        have k2 : k ≠ 2 := fun e => k12 (.inr e)
        unfold nodeP
        rw [if_neg k2, if_neg k1, if_neg k2, if_neg k1]
        by_cases k3 : k = 3
        · subst k3
          rw [rc_not] at hr
          split at hr
          · have hl : l ≠ .none := by rintro rfl; rw [right_none] at hr; cases hr
            have il := node_txt l hl _ _ _ hr
            rw [if_pos rfl, if_pos rfl]
            show g ++ ([78, 79, 84] ++ txt z (brP l.kind 2 (nodeP l) [32])) = _
            rw [br_txt il]
            unfold condT
            simp
          · cases hr
        · rw [if_neg k3, if_neg k3, test_txt]
          unfold testT
          rw [test_txt]
          simp
    have h0 := key [] []
    rw [key]
    unfold nodeT
    rw [h0]
    simp
theorem nodeT_eq {k : Int} {l r : Cd} {col : Tx} {op : Int} {vals : List Vl} {deep n m : Nat} (hr : rightC (.node k l r col op vals) deep n = some m) :
    (k = 1 ∨ k = 2 ∨ k = 3 ∨ (k ≠ 1 ∧ k ≠ 2 ∧ k ≠ 3)) ∧ ((k = 1 ∨ k = 2) → l ≠ .none ∧ r ≠ .none ∧ (∃ d n m, rightC l d n = some m) ∧ ∃ d n m, rightC r d n = some m) ∧ (k = 3 → l ≠ .none ∧ ∃ d n m, rightC l d n = some m) ∧ (k ≠ 1 → k ≠ 2 → k ≠ 3 → testR k col op vals = true) := by
  have hd : ∃ d, deep = d + 1 := by
    cases deep with
    | zero => unfold rightC at hr; rw [if_pos (.inl rfl)] at hr; cases hr
    | succ d => exact ⟨d, rfl⟩
  obtain ⟨d, rfl⟩ := hd
  have hn : ∃ d, n = d + 1 := by
    cases n with
    | zero => rw [rc_zero] at hr; cases hr
    | succ d => exact ⟨d, rfl⟩
  obtain ⟨n, rfl⟩ := hn
  refine ⟨by omega, fun k12 => ?_, fun k3 => ?_, fun k1 k2 k3 => ?_⟩
  · rw [rc_two k12] at hr
    split at hr
    · obtain ⟨a, h1, h2⟩ := Option.bind_eq_some_iff.1 hr
      exact ⟨(by rintro rfl; rw [right_none] at h1; cases h1), (by rintro rfl; rw [right_none] at h2; cases h2), ⟨_, _, _, h1⟩, _, _, _, h2⟩
    · cases hr
  · subst k3
    rw [rc_not] at hr
    split at hr
    · exact ⟨(by rintro rfl; rw [right_none] at hr; cases hr), _, _, _, hr⟩
    · cases hr
  · rw [rc_test k1 k2 k3] at hr
    split at hr
    · rename_i h; exact h.2.2
    · cases hr
theorem nodeT_cases {k : Int} {l r : Cd} {col : Tx} {op : Int} {vals : List Vl} {deep n m : Nat} (hr : rightC (.node k l r col op vals) deep n = some m) :
    nodeT (.node k l r col op vals) = (if k = 2 then condT l 0 ++ [32, 79, 82, 32] ++ condT r 1 else if k = 1 then condT l 1 ++ [32, 65, 78, 68, 32] ++ condT r 2 else if k = 3 then [78, 79, 84, 32] ++ condT l 2 else testT k col op vals) := by
  obtain ⟨_, h12, h3, h4⟩ := nodeT_eq hr
  unfold nodeT nodeP
  by_cases k2 : k = 2
  · rw [if_pos k2, if_pos k2, txt_app]
    obtain ⟨hl, hrr, ⟨_, _, _, h1⟩, _, _, _, h2⟩ := h12 (.inr k2)
    show txt ([32] ++ ([79, 82] ++ txt [] (brP r.kind 1 (nodeP r) [32]))) (brP l.kind 0 (nodeP l) []) = _
    rw [br_txt (node_txt l hl _ _ _ h1), br_txt (node_txt r hrr _ _ _ h2)]
    unfold condT
    simp
  · rw [if_neg k2, if_neg k2]
    by_cases k1 : k = 1
    · rw [if_pos k1, if_pos k1, txt_app]
      obtain ⟨hl, hrr, ⟨_, _, _, h1⟩, _, _, _, h2⟩ := h12 (.inl k1)
      show txt ([32] ++ ([65, 78, 68] ++ txt [] (brP r.kind 2 (nodeP r) [32]))) (brP l.kind 1 (nodeP l) []) = _
      rw [br_txt (node_txt l hl _ _ _ h1), br_txt (node_txt r hrr _ _ _ h2)]
      unfold condT
      simp
    · rw [if_neg k1, if_neg k1]
      by_cases k3 : k = 3
      · rw [if_pos k3, if_pos k3]
        obtain ⟨hl, _, _, _, h1⟩ := h3 k3
        show [] ++ ([78, 79, 84] ++ txt [] (brP l.kind 2 (nodeP l) [32])) = _
        rw [br_txt (node_txt l hl _ _ _ h1)]
        unfold condT
        simp
      · rw [if_neg k3, if_neg k3]; rfl

/-! ### walked -/
theorem fr_of_belowB {b : Nat} {w w' : World} (h : Below b w w') : Fr (fun k => b ≤ k) w w' := ⟨h.os, h.tape, h.output, h.size, fun k _ hn => h.block k (by omega)⟩
theorem Pv.belowB {b : Nat} {w w' : World} (h : Pv w) (hb : 12 ≤ b) (f : Below b w w') : Pv w' := h.keep (fr_of_belowB f) fun k hk => by omega
theorem CdAt.belowB {K : Nat → Prop} {b : Nat} (hK : ∀ k, K k → k < b) {w w' : World} (f : Below b w w') {c : Cd} {v : Value} (h : CdAt K w c v) : CdAt K w' c v := h.mono fun k hk _ => ⟨hk, f.block k (hK k hk)⟩
def WroteP (b : Nat) (t : Tx) (w : World) (e : Ending) (w' : World) : Prop := e = .returned (.tuple #[]) ∧ Bd w' b t ∧ Below b w w'
def NodeOk (b : Nat) (c : Cd) : Prop := ∀ (K : Nat → Prop) (v : Value) (w : World) (t : Tx), (∀ k, K k → k < b) → CdAt K w c v → Bd w b t → Pv w → (t ++ nodeT c).length ≤ 100000000 → Calls Tryz.prog 133 #[.pointer (some ⟨b, 0, none⟩), v] w (WroteP b (t ++ nodeT c) w)
theorem wrote_any (b : Nat) (t B : Tx) (w : World) (h : Bd w b t) (hl : t.length + B.length ≤ 200000000) : Calls Tryz.prog 81 #[.pointer (some ⟨b, 0, none⟩), sv B] w fun e w' => (∃ n, e = .returned (.tuple #[.int .i64 n, .nilIface])) ∧ Bd w' b (t ++ B) ∧ Below b w w' := write_any b t B w h (by omega)
set_option maxRecDepth 100000 in
theorem showc_of {b : Nat} (h12 : 12 ≤ b) {c : Cd} (hc : c ≠ .none) (H : NodeOk b c) (least : Nat) {li : Int} (hli : li = (least : Nat)) (K : Nat → Prop) (v : Value) (w : World) (t : Tx) (hK : ∀ k, K k → k < b) (hA : CdAt K w c v) (hB : Bd w b t) (hp : Pv w) (hlen : (t ++ condT c least).length ≤ 100000000) :
    Calls Tryz.prog 84 #[.pointer (some ⟨b, 0, none⟩), v, .int .i64 li] w (WroteP b (t ++ condT c least) w) := by
  subst hli
  obtain ⟨k, hk⟩ : ∃ k, c.kind = k := ⟨_, rfl⟩
  obtain ⟨g, o, rfl, hc0⟩ : ∃ g o, v = .pointer (some ⟨g, o, none⟩) ∧ w.cell? ⟨g, o, none⟩ = some (.int .i64 k) := by
    cases c with
    | none => exact absurd rfl hc
    | node k' l r col op vals =>
      obtain ⟨g, o, _, _, _, e, _, _, h0, _⟩ := hA
      exact ⟨g, o, e, by rw [h0, ← hk]; rfl⟩
  have HST := Lib.hid (strength_any hc0)
  unfold condT at hlen ⊢
  rw [hk] at hlen ⊢
  obtain ⟨s, hs⟩ : ∃ s, strK k = s := ⟨_, rfl⟩
  rw [hs] at hlen HST ⊢
  by_cases hle : least ≤ s
  · rw [if_pos hle] at hlen ⊢
    have HC := Lib.hid (H K _ w t hK hA hB hp hlen)
    clear hA hB hp hlen hk hs hc0
    go_enter Tryz.func84, Tryz.ntmps84
    go_wp2_with fail
    refine HST.out.mono ?_
    rintro e w1 ⟨rfl, rfl⟩
    go_wp2_with fail
    refine HC.out.mono ?_
    rintro e w2 ⟨rfl, h1, h2⟩
    have H1 := Lib.hid h1
    have H2 := Lib.hid h2
    clear h1 h2
    go_wp2_with fail
    refine bodyPost_ret (v := .tuple #[]) (by simp [results, Tryz.results84, go_sem]) rfl ?_
    exact ⟨rfl, H1.out, H2.out⟩
  · rw [if_neg hle] at hlen ⊢
    have hle' : (least ≤ s) = False := eq_false hle
    have HW1 := Lib.hid (wrote_any b t [40] w hB (by simp at hlen ⊢; omega))
    have HNX : Hid (∀ w1, Bd w1 b (t ++ [40]) → Below b w w1 → Calls Tryz.prog 133 #[.pointer (some ⟨b, 0, none⟩), .pointer (some ⟨g, o, none⟩)] w1 (WroteP b (t ++ [40] ++ nodeT c) w1)) := Lib.hid fun w1 h1 h2 => H K _ w1 (t ++ [40]) hK (hA.belowB hK h2) h1 (hp.belowB h12 h2) (by simp at hlen ⊢; omega)
    have HW3 : Hid (∀ w1, Bd w1 b (t ++ [40] ++ nodeT c) → Calls Tryz.prog 81 #[.pointer (some ⟨b, 0, none⟩), sv [41]] w1 fun e w' => (∃ n, e = .returned (.tuple #[.int .i64 n, .nilIface])) ∧ Bd w' b (t ++ [40] ++ nodeT c ++ [41]) ∧ Below b w1 w') := Lib.hid fun w1 h1 => wrote_any b _ [41] w1 h1 (by simp at hlen ⊢; omega)
    have HT : Hid (t ++ ([40] ++ nodeT c ++ [41]) = t ++ [40] ++ nodeT c ++ [41]) := Lib.hid (by simp)
    rw [HT.out]
    clear hA hB hp hlen hk hs hc0
    go_enter Tryz.func84, Tryz.ntmps84
    go_wp2_with fail
    refine HST.out.mono ?_
    rintro e w1 ⟨rfl, rfl⟩
    go_wp2_with fail
    refine HW1.out.mono ?_
    rintro e w2 ⟨⟨n, rfl⟩, h1, h2⟩
    have H2 := Lib.hid h2
    have HC2 := Lib.hid (HNX.out w2 h1 h2)
    clear h1 h2
    go_wp2_with fail
    refine HC2.out.mono ?_
    rintro e w3 ⟨rfl, h1, h2⟩
    have H3 := Lib.hid (H2.out.trans h2)
    have HC3 := Lib.hid (HW3.out w3 h1)
    clear h1 h2
    go_wp2_with fail
    refine HC3.out.mono ?_
    rintro e w4 ⟨⟨n, rfl⟩, h1, h2⟩
    have H1 := Lib.hid h1
    have H4 := Lib.hid (H3.out.trans h2)
    clear h1 h2
    go_wp2_with fail
    refine bodyPost_ret (v := .tuple #[]) (by simp [results, Tryz.results84, go_sem]) rfl ?_
    exact ⟨rfl, H1.out, H4.out⟩
end Go.Proofs.YtkcnbmgaeompjaaGreatDoor
/- A condition's text, walked: its nodes. -/
namespace Go.Proofs.YtkcnbmgaeompjaaGreatDoor
open Go.RowKit Go.Maps
set_option linter.unusedVariables false

theorem cond_len (c : Cd) (least : Nat) : (condT c least).length ≤ (nodeT c).length + 2 ∧ (nodeT c).length ≤ (condT c least).length := by
  unfold condT
  split
  · exact ⟨by omega, Nat.le_refl _⟩
  · simp; omega
set_option maxRecDepth 100000 in
set_option maxHeartbeats 4000000 in
theorem node_ok {b : Nat} (h12 : 12 ≤ b) : ∀ (c : Cd), c ≠ .none → (∃ d n m, rightC c d n = some m) → NodeOk b c
  | .none, hc, _ => absurd rfl hc
  | .node k l r col op vals, _, ⟨_, _, _, hr⟩ => by
    intro K v w t hK hA hB hp hlen
    obtain ⟨g, o, L, R, V, rfl, hKg, hg, c0, c1, c2, c3, c4, c5, hl, hrr, hv, hcl, _, _⟩ := hA
    obtain ⟨-, r12, r3, r4⟩ := nodeT_eq hr
    have hT := nodeT_cases hr
    have HN : Hid (∀ w', Below b w w' → NodeC w' g o k L R col op V ∧ CdAt K w' l L ∧ CdAt K w' r R ∧ Pv w') := Lib.hid fun w' f' =>
      ⟨NodeC.of ⟨c0, c1, c2, c3, c4, c5⟩ (f'.block g (hK g hKg)), hl.belowB hK f', hrr.belowB hK f', hp.belowB h12 f'⟩
    have HK := Lib.hid hK
    obtain ⟨T, hTT⟩ : ∃ T, nodeT (.node k l r col op vals) = T := ⟨_, rfl⟩
    rw [hTT] at hT hlen ⊢
    have HB := Lib.hid hB
    have HBR : Hid (Below b w w) := Lib.hid (Below.refl _ _)
    clear hTT
    by_cases k2 : k = 2
    · subst k2
      have hT2 : T = condT l 0 ++ [32, 79, 82, 32] ++ condT r 1 := by rw [hT, if_pos rfl]
      obtain ⟨hl0, hr0, hlr, hrr2⟩ := r12 (.inr rfl)
      have il := node_ok h12 l hl0 hlr
      have ir := node_ok h12 r hr0 hrr2
      have HL := Lib.hid (showc_of h12 hl0 il 0 (li := 0) rfl K L w t hK hl hB hp (by rw [hT2] at hlen; simp at hlen ⊢; omega))
      have HW : Hid (∀ w1, Bd w1 b (t ++ condT l 0) → Calls Tryz.prog 81 #[.pointer (some ⟨b, 0, none⟩), sv [32, 79, 82, 32]] w1 fun e w' => (∃ n, e = .returned (.tuple #[.int .i64 n, .nilIface])) ∧ Bd w' b (t ++ condT l 0 ++ [32, 79, 82, 32]) ∧ Below b w1 w') := Lib.hid fun w1 h1 => wrote_any b _ [32, 79, 82, 32] w1 h1 (by rw [hT2] at hlen; simp at hlen ⊢; omega)
      have HR : Hid (∀ w1, Bd w1 b (t ++ condT l 0 ++ [32, 79, 82, 32]) → Below b w w1 → Calls Tryz.prog 84 #[.pointer (some ⟨b, 0, none⟩), R, .int .i64 1] w1 (WroteP b (t ++ condT l 0 ++ [32, 79, 82, 32] ++ condT r 1) w1)) := Lib.hid fun w1 h1 h2 => showc_of h12 hr0 ir 1 (li := 1) rfl K R w1 _ HK.out (HN.out w1 h2).2.2.1 h1 (HN.out w1 h2).2.2.2 (by rw [hT2] at hlen; simp at hlen ⊢; omega)
      have HT : Hid (t ++ T = t ++ condT l 0 ++ [32, 79, 82, 32] ++ condT r 1) := Lib.hid (by rw [hT2]; simp)
      obtain ⟨pl, rfl⟩ : ∃ p, L = .pointer p := (cdTo_of l 0 L hl).p
      obtain ⟨pr, rfl⟩ : ∃ p, R = .pointer p := (cdTo_of r 0 R hrr).p
      rw [HT.out]
      clear hT2 hT hl0 hr0 hlr hrr2 il ir hlen hl hrr hv hcl r12 r3 r4 hp hB hr hg hKg c3 c4 c5
      go_enter Tryz.func133, Tryz.ntmps133
      go_wp2_with fail
      refine HL.out.mono ?_
      rintro e w2 ⟨rfl, h1, h2⟩
      have HB2 := Lib.hid h2
      have HW2 := Lib.hid (HW.out w2 h1)
      clear h1 h2 c0 c1 c2
      go_wp2_with fail
      refine HW2.out.mono ?_
      rintro e w3 ⟨⟨n, rfl⟩, h1, h2⟩
      have HB3 := Lib.hid (HB2.out.trans h2)
      have HR3 := Lib.hid (HR.out w3 h1 HB3.out)
      have d2 := (HN.out w3 HB3.out).1.c2
      clear h1 h2
      go_wp2_with fail
      refine HR3.out.mono ?_
      rintro e w4 ⟨rfl, h1, h2⟩
      have H4 := Lib.hid h1
      have HB4 := Lib.hid (HB3.out.trans h2)
      clear h1 h2
      go_wp2_with fail
      refine bodyPost_ret (v := .tuple #[]) (by simp [results, Tryz.results133, go_sem]) rfl ?_
      exact ⟨rfl, H4.out, HB4.out⟩
    have k2' : (k == 2) = false := by simpa using k2
    rw [if_neg k2] at hT
    by_cases k1 : k = 1
    · subst k1
      have hT2 : T = condT l 1 ++ [32, 65, 78, 68, 32] ++ condT r 2 := by rw [hT, if_pos rfl]
      obtain ⟨hl0, hr0, hlr, hrr2⟩ := r12 (.inl rfl)
      have il := node_ok h12 l hl0 hlr
      have ir := node_ok h12 r hr0 hrr2
      have HL := Lib.hid (showc_of h12 hl0 il 1 (li := 1) rfl K L w t hK hl hB hp (by rw [hT2] at hlen; simp at hlen ⊢; omega))
      have HW : Hid (∀ w1, Bd w1 b (t ++ condT l 1) → Calls Tryz.prog 81 #[.pointer (some ⟨b, 0, none⟩), sv [32, 65, 78, 68, 32]] w1 fun e w' => (∃ n, e = .returned (.tuple #[.int .i64 n, .nilIface])) ∧ Bd w' b (t ++ condT l 1 ++ [32, 65, 78, 68, 32]) ∧ Below b w1 w') := Lib.hid fun w1 h1 => wrote_any b _ [32, 65, 78, 68, 32] w1 h1 (by rw [hT2] at hlen; simp at hlen ⊢; omega)
      have HR : Hid (∀ w1, Bd w1 b (t ++ condT l 1 ++ [32, 65, 78, 68, 32]) → Below b w w1 → Calls Tryz.prog 84 #[.pointer (some ⟨b, 0, none⟩), R, .int .i64 2] w1 (WroteP b (t ++ condT l 1 ++ [32, 65, 78, 68, 32] ++ condT r 2) w1)) := Lib.hid fun w1 h1 h2 => showc_of h12 hr0 ir 2 (li := 2) rfl K R w1 _ HK.out (HN.out w1 h2).2.2.1 h1 (HN.out w1 h2).2.2.2 (by rw [hT2] at hlen; simp at hlen ⊢; omega)
      have HT : Hid (t ++ T = t ++ condT l 1 ++ [32, 65, 78, 68, 32] ++ condT r 2) := Lib.hid (by rw [hT2]; simp)
      obtain ⟨pl, rfl⟩ : ∃ p, L = .pointer p := (cdTo_of l 0 L hl).p
      obtain ⟨pr, rfl⟩ : ∃ p, R = .pointer p := (cdTo_of r 0 R hrr).p
      rw [HT.out]
      clear hT2 hT hl0 hr0 hlr hrr2 il ir hlen hl hrr hv hcl r12 r3 r4 hp hB hr hg hKg c3 c4 c5
      go_enter Tryz.func133, Tryz.ntmps133
      go_wp2_with fail
      refine HL.out.mono ?_
      rintro e w2 ⟨rfl, h1, h2⟩
      have HB2 := Lib.hid h2
      have HW2 := Lib.hid (HW.out w2 h1)
      clear h1 h2 c0 c1 c2
      go_wp2_with fail
      refine HW2.out.mono ?_
      rintro e w3 ⟨⟨n, rfl⟩, h1, h2⟩
      have HB3 := Lib.hid (HB2.out.trans h2)
      have HR3 := Lib.hid (HR.out w3 h1 HB3.out)
      have d2 := (HN.out w3 HB3.out).1.c2
      clear h1 h2
      go_wp2_with fail
      refine HR3.out.mono ?_
      rintro e w4 ⟨rfl, h1, h2⟩
      have H4 := Lib.hid h1
      have HB4 := Lib.hid (HB3.out.trans h2)
      clear h1 h2
      go_wp2_with fail
      refine bodyPost_ret (v := .tuple #[]) (by simp [results, Tryz.results133, go_sem]) rfl ?_
      exact ⟨rfl, H4.out, HB4.out⟩
    have k1' : (k == 1) = false := by simpa using k1
    rw [if_neg k1] at hT
    by_cases k3 : k = 3
    · subst k3
      have hT2 : T = [78, 79, 84, 32] ++ condT l 2 := by rw [hT, if_pos rfl]
      obtain ⟨hl0, hlr⟩ := r3 rfl
      have il := node_ok h12 l hl0 hlr
      have HW := Lib.hid (wrote_any b t [78, 79, 84, 32] w hB (by rw [hT2] at hlen; simp at hlen ⊢; omega))
      have HL : Hid (∀ w1, Bd w1 b (t ++ [78, 79, 84, 32]) → Below b w w1 → Calls Tryz.prog 84 #[.pointer (some ⟨b, 0, none⟩), L, .int .i64 2] w1 (WroteP b (t ++ [78, 79, 84, 32] ++ condT l 2) w1)) := Lib.hid fun w1 h1 h2 => showc_of h12 hl0 il 2 (li := 2) rfl K L w1 _ HK.out (HN.out w1 h2).2.1 h1 (HN.out w1 h2).2.2.2 (by rw [hT2] at hlen; simp at hlen ⊢; omega)
      have HT : Hid (t ++ T = t ++ [78, 79, 84, 32] ++ condT l 2) := Lib.hid (by rw [hT2]; simp)
      obtain ⟨pl, rfl⟩ : ∃ p, L = .pointer p := (cdTo_of l 0 L hl).p
      rw [HT.out]
      clear hT2 hT hl0 hlr il hlen hl hrr hv hcl r12 r3 r4 hp hB hr hg hKg c2 c3 c4 c5
      go_enter Tryz.func133, Tryz.ntmps133
      go_wp2_with fail
      refine HW.out.mono ?_
      rintro e w2 ⟨⟨n, rfl⟩, h1, h2⟩
      have HB2 := Lib.hid h2
      have HL2 := Lib.hid (HL.out w2 h1 h2)
      have d1 := (HN.out w2 h2).1.c1
      clear h1 h2 c0 c1
      go_wp2_with fail
      refine HL2.out.mono ?_
      rintro e w4 ⟨rfl, h1, h2⟩
      have H4 := Lib.hid h1
      have HB4 := Lib.hid (HB2.out.trans h2)
      clear h1 h2
      go_wp2_with fail
      refine bodyPost_ret (v := .tuple #[]) (by simp [results, Tryz.results133, go_sem]) rfl ?_
      exact ⟨rfl, H4.out, HB4.out⟩
    · have k3' : (k == 3) = false := by simpa using k3
      rw [if_neg k3] at hT
      have HC := Lib.hid (testtext_any hp ⟨c0, c1, c2, c3, c4, c5⟩ hv hg (r4 k1 k2 k3) (by rw [← hT]; simp at hlen; omega))
      have HW : Hid (∀ w1, Fr No w w1 → Calls Tryz.prog 81 #[.pointer (some ⟨b, 0, none⟩), sv T] w1 fun e w' => (∃ n, e = .returned (.tuple #[.int .i64 n, .nilIface])) ∧ Bd w' b (t ++ T) ∧ Below b w1 w') := Lib.hid fun w1 f1 => wrote_any b _ T w1 (hB.keep f1) (by simp at hlen; omega)
      rw [← hT] at HC
      have HBL := Lib.hid (Nat.le_of_lt hB.lt)
      clear hT hlen hl hrr hv hcl r12 r3 r4 hp hB hr hg hKg c1 c2 c3 c4 c5
      go_enter Tryz.func133, Tryz.ntmps133
      go_wp2_with fail
      refine HC.out.mono ?_
      rintro e w2 ⟨rfl, f2⟩
      have HW2 := Lib.hid (HW.out w2 f2)
      have HF2 := Lib.hid (f2.below.mono HBL.out)
      clear f2 c0
      go_wp2_with fail
      refine HW2.out.mono ?_
      rintro e w3 ⟨⟨n, rfl⟩, h1, h2⟩
      have H4 := Lib.hid h1
      have HB4 := Lib.hid (HF2.out.trans h2)
      clear h1 h2
      go_wp2_with fail
      refine bodyPost_ret (v := .tuple #[]) (by simp [results, Tryz.results133, go_sem]) rfl ?_
      exact ⟨rfl, H4.out, HB4.out⟩
end Go.Proofs.YtkcnbmgaeompjaaGreatDoor
/- A query's text; Show. -/
namespace Go.Proofs.YtkcnbmgaeompjaaGreatDoor
open Go.RowKit Go.Maps
set_option linter.unusedVariables false

def selT (q : Qy) : Tx := [83, 69, 76, 69, 67, 84, 32] ++ jn (q.items.map itemT) ++ [32, 70, 82, 79, 77, 32] ++ q.table
def whereT (c : Cd) : Tx := if c = .none then [] else [32, 87, 72, 69, 82, 69, 32] ++ condT c 0
def grpsT (q : Qy) : Tx := if q.grouped then [32, 71, 82, 79, 85, 80, 32, 66, 89, 32] ++ jn (q.groups.map groupT) else []
theorem rightQ_parts {q : Qy} (h : rightQ q = true) : (1 ≤ q.items.length ∧ q.items.length ≤ 16 ∧ ∀ x ∈ q.items, rightI x = true) ∧ isNameB q.table = true ∧ (q.cond = .none ∨ ∃ m, rightC q.cond 32 2048 = some m) ∧ rightGs q = true := by
  unfold rightQ at h
  simp only [Bool.and_eq_true, Bool.or_eq_true, decide_eq_true_eq, Option.isSome_iff_exists] at h
  exact ⟨rightL_len h.1.1.1, h.1.1.2, h.1.2, h.2⟩
theorem rightGs_parts {q : Qy} (h : rightGs q = true) (hg : q.grouped = true) : 1 ≤ q.groups.length ∧ q.groups.length ≤ 16 ∧ ∀ x ∈ q.groups, rightG x = true := by
  unfold rightGs at h
  rw [if_pos hg] at h
  exact rightL_len h
theorem showT_eq {q : Qy} (h : rightQ q = true) : showT q = selT q ++ whereT q.cond ++ grpsT q := by
  obtain ⟨⟨h1, -, -⟩, -, h3, h4⟩ := rightQ_parts h
  have hi : q.items ≠ [] := by intro e; rw [e] at h1; simp at h1
  have hw : ∀ z, txt z (whereP q.cond) = whereT q.cond ++ z := fun z => by
    unfold whereP whereT
    split
    · rfl
    · rename_i hc
      obtain ⟨m, hm⟩ := h3.resolve_left hc
      show [32] ++ ([87, 72, 69, 82, 69] ++ txt z (brP q.cond.kind 0 (nodeP q.cond) [32])) = _
      rw [br_txt (node_txt q.cond hc _ _ _ hm)]
      unfold condT
      simp
  have hg : txt [] (groupP q) = grpsT q := by
    unfold groupP grpsT
    split
    · rename_i hgr
      obtain ⟨g1, -, -⟩ := rightGs_parts h4 hgr
      have hgn : q.groups ≠ [] := by intro e; rw [e] at g1; simp at g1
      show [32] ++ ([71, 82, 79, 85, 80] ++ ([32] ++ ([66, 89] ++ txt [] (sepP grpP [32] q.groups)))) = _
      rw [sep_txt grp_shows [32] [] q.groups (.inl hgn)]
      simp
    · rfl
  unfold showT queryP selT
  show [] ++ ([83, 69, 76, 69, 67, 84] ++ txt [] (sepP itemP [32] q.items ++ (sw [32] 2 [70, 82, 79, 77] :: sw [32] 1 q.table :: (whereP q.cond ++ groupP q)))) = _
  rw [txt_app, sep_txt item_shows [32] _ q.items (.inl hi)]
  show [] ++ ([83, 69, 76, 69, 67, 84] ++ ([32] ++ jn (q.items.map itemT) ++ ([32] ++ ([70, 82, 79, 77] ++ ([32] ++ (q.table ++ txt [] (whereP q.cond ++ groupP q))))))) = _
  rw [txt_app, hw, hg]
  simp
set_option maxRecDepth 100000 in
set_option maxHeartbeats 4000000 in
theorem querytext_any {K : Nat → Prop} (q : Qy) (v : Value) (w : World) (hp : Pv w) (h : QyAt K w q v) (hr : rightQ q = true) (hlen : (showT q).length ≤ 100000000) : Calls Tryz.prog 34 #[v] w (TellsT (showT q) w) := by
  have hEQ := showT_eq hr
  obtain ⟨⟨i1, i2, i3⟩, hnm, h3, h4⟩ := rightQ_parts hr
  obtain ⟨b0, hb0⟩ : ∃ z, w.heap.size = z := ⟨_, rfl⟩
  have h := h.mono (K' := fun k => K k ∧ k < b0) (w' := w) fun k hk hkl => ⟨⟨hk, by omega⟩, rfl⟩
  obtain ⟨a, D, G, rfl, hit, htl, hcd, hgr⟩ := h
  obtain ⟨A1, c1, rfl⟩ : ∃ A1 c1, a = .slice A1 q.items.length c1 := by obtain ⟨A1, c1, e, _⟩ := hit; exact ⟨_, _, e⟩
  obtain ⟨A2, c2, rfl⟩ : ∃ A2 c2, G = .slice A2 q.groups.length c2 := by obtain ⟨A2, c2, e, _⟩ := hgr; exact ⟨_, _, e⟩
  obtain ⟨px, rfl⟩ : ∃ p, D = .pointer p := (cdTo_of q.cond 0 D hcd).p
  obtain ⟨w1, hw1⟩ : ∃ w1, w.alloc (.cells #[.slice A1 q.items.length c1, sv q.table, .pointer px, .bool q.grouped, .slice A2 q.groups.length c2] 27) = w1 := ⟨_, rfl⟩
  have f1 : Fr No w w1 := by rw [← hw1]; exact (Fr.refl No w).alloc _
  have hb1 : Blk w1 b0 27 #[.slice A1 q.items.length c1, sv q.table, .pointer px, .bool q.grouped, .slice A2 q.groups.length c2] := by rw [← hw1, ← hb0]; exact Blk.new w 27 _
  have hs1 : w1.heap.size = b0 + 1 := by rw [← hw1, ← hb0]; simp
  obtain ⟨w2, hw2⟩ : ∃ w2, w1.alloc (.cells #[.pointer none, .slice none 0 0] 114) = w2 := ⟨_, rfl⟩
  have f2 : Fr No w1 w2 := by rw [← hw2]; exact (Fr.refl No w1).alloc _
  have hB2 : Bd w2 (b0 + 1) [] := by rw [← hw2, ← hs1]; exact Bd.new w1
  have f12 := f1.trans f2 fun _ _ h => h
  have fd : Fr No w2 w2.drew := (Fr.refl No w2).drew
  have h12 : 12 ≤ b0 + 1 := by have := hp.lt; omega
  -- what stands at any world behind
  have HAT : Hid (∀ w', Below (b0 + 1) w2 w' → Pv w' ∧ Blk w' b0 27 #[.slice A1 q.items.length c1, sv q.table, .pointer px, .bool q.grouped, .slice A2 q.groups.length c2] ∧ RowE (fun k => K k ∧ k < b0) w' 2 (itG (fun k => K k ∧ k < b0) w') (.slice A1 q.items.length c1) q.items ∧ CdAt (fun k => K k ∧ k < b0) w' q.cond (.pointer px) ∧ RowE (fun k => K k ∧ k < b0) w' 3 (gpG (fun k => K k ∧ k < b0) w') (.slice A2 q.groups.length c2) q.groups ∧ Fr No w w') := Lib.hid fun w' f' => by
    have hk : ∀ k, (K k ∧ k < b0) → k < w.heap.size → (K k ∧ k < b0) ∧ w'.heap[k]? = w.heap[k]? := fun k hk hkl => ⟨hk, (f'.block k (by omega)).trans (f12.block k hkl id)⟩
    refine ⟨(hp.no f12).belowB h12 f', hb1.of ((f'.block b0 (by omega)).trans (f2.block b0 hb1.lt id)), hit.mono hk fun _ _ h => itG_elem.mono _ _ _ _ _ _ h hk, hcd.mono hk, hgr.mono hk fun _ _ h => gpG_elem.mono _ _ _ _ _ _ h hk, ?_⟩
    exact Fr.of_below (f12.below.trans (f'.mono (by omega)))
  have hBb : Below (b0 + 1) w2 w2.drew := fd.below.mono (by have := hB2.lt; omega)
  have HS : Hid (∀ w', Below (b0 + 1) w2 w' → w'.cell? ⟨b0, 0, none⟩ = some (.slice A1 q.items.length c1) ∧ w'.cell? ⟨b0, 1, none⟩ = some (sv q.table)) := Lib.hid fun w' f' => ⟨(HAT.out w' f').2.1.cell 0, (HAT.out w' f').2.1.cell 1⟩
  have HS0 := Lib.hid (HS.out _ hBb)
  have hj : (jn (q.items.map itemT)).length ≤ 100000000 := by rw [hEQ] at hlen; unfold selT at hlen; simp at hlen; omega
  have HJ := Lib.hid (joined82_any w2.drew (HAT.out _ hBb).1 (HAT.out _ hBb).2.2.1 i1 (by omega) i3 hj)
  have hsl : (selT q).length ≤ 100000000 := by rw [hEQ] at hlen; simp at hlen; omega
  have hSEL : selT q = [83, 69, 76, 69, 67, 84, 32] ++ jn (q.items.map itemT) ++ [32, 70, 82, 79, 77, 32] ++ q.table := rfl
  have hLW : (selT q).length + (whereT q.cond).length + (grpsT q).length ≤ 100000000 := by rw [hEQ] at hlen; simp at hlen; omega
  have HLW := Lib.hid hLW
  have HEQ := Lib.hid hEQ
  obtain ⟨X, hX⟩ : ∃ X, jn (q.items.map itemT) = X := ⟨_, rfl⟩
  obtain ⟨Z, hZ⟩ : ∃ Z, selT q = Z := ⟨_, rfl⟩
  rw [hX] at hSEL HJ hj
  rw [hZ] at hSEL hsl HLW HEQ
  have a1 : ∀ w0, (Op.stringOp .add ⟨#[83, 69, 76, 69, 67, 84, 32]⟩ ⟨X.toArray⟩).run Tryz.prog w0 = .ok (.string ⟨([83, 69, 76, 69, 67, 84, 32] ++ X).toArray⟩) w0 := fun w0 => run_cat [83, 69, 76, 69, 67, 84, 32] X (by unfold maxLen; simp; omega) w0
  have a2 : ∀ w0, (Op.stringOp .add ⟨([83, 69, 76, 69, 67, 84, 32] ++ X).toArray⟩ ⟨#[32, 70, 82, 79, 77, 32]⟩).run Tryz.prog w0 = .ok (.string ⟨([83, 69, 76, 69, 67, 84, 32] ++ X ++ [32, 70, 82, 79, 77, 32]).toArray⟩) w0 := fun w0 => run_cat _ [32, 70, 82, 79, 77, 32] (by unfold maxLen; simp; omega) w0
  have a3 : ∀ w0, (Op.stringOp .add ⟨([83, 69, 76, 69, 67, 84, 32] ++ X ++ [32, 70, 82, 79, 77, 32]).toArray⟩ ⟨q.table.toArray⟩).run Tryz.prog w0 = .ok (.string ⟨([83, 69, 76, 69, 67, 84, 32] ++ X ++ [32, 70, 82, 79, 77, 32] ++ q.table).toArray⟩) w0 := fun w0 => run_cat _ q.table (by rw [hSEL] at hsl; unfold maxLen; simp at hsl ⊢; omega) w0
  rw [← hSEL] at a3
  obtain ⟨X1, hX1⟩ : ∃ Y, [83, 69, 76, 69, 67, 84, 32] ++ X = Y := ⟨_, rfl⟩
  rw [hX1] at a1 a2 a3
  obtain ⟨X2, hX2⟩ : ∃ Y, X1 ++ [32, 70, 82, 79, 77, 32] = Y := ⟨_, rfl⟩
  rw [hX2] at a2 a3
  have HWRT : Hid (∀ w' t B, Bd w' (b0 + 1) t → t.length + B.length ≤ 200000000 → Calls Tryz.prog 81 #[.pointer (some ⟨b0 + 1, 0, none⟩), sv B] w' fun e w'' => (∃ n, e = .returned (.tuple #[.int .i64 n, .nilIface])) ∧ Bd w'' (b0 + 1) (t ++ B) ∧ Below (b0 + 1) w' w'') := Lib.hid fun w' t B hb hl => wrote_any (b0 + 1) t B w' hb hl
  have HB2 := Lib.hid hB2
  have HBB := Lib.hid hBb
  have HW1 := Lib.hid hw1
  have HW2 := Lib.hid hw2
  have HZ := Lib.hid hb0
  have HS1 := Lib.hid hs1
  have HZL := Lib.hid hsl
  have H12 := Lib.hid h12
  have H3 := Lib.hid h3
  have H4 := Lib.hid h4
  obtain ⟨ST, hST⟩ : ∃ t, showT q = t := ⟨_, rfl⟩
  rw [hST] at HEQ ⊢
  clear hX1 hX2 hX hZ hSEL hsl hLW hEQ hj hw1 f1 hb1 hs1 hw2 f2 hB2 f12 fd hBb hit hcd hgr hp hr hlen i1 i2 i3 hnm h3 h4 h12 hST hb0
  go_enter Tryz.func34, Tryz.ntmps34
  go_upto_region 1 with fail
  rw [HZ.out, HW1.out]
  go_upto_region 2 with fail
  rw [HS1.out, HW2.out]
  refine wp_region_held_drew (S := fun w' => w'.cell? ⟨b0, 0, none⟩ = some (.slice A1 q.items.length c1) ∧ w'.cell? ⟨b0, 1, none⟩ = some (sv q.table)) (by kernel_rfl) (HS0.out) (fun hHeld => ?_)
  refine wpAnyH_take (i := 0) (oi := ({ dst := some 6, op := Go.Op.move (Go.Operand.tmp 3), type := 111, pos := "show.go:21", after := #[], guard := none } : Go.Oper)) (v := ?_) rfl (by kernel_rfl) (by kernel_rfl) (by kernel_rfl) (fun _ _ _ h => h) (Or.inl ⟨by rfl, ?_⟩) (by assumption) ?_
  rotate_left 1
  · intro w hSw; (try dsimp only at hSw); first | (go_simp; done) | (go_simp; with_reducible rfl)
  try simp only [Act.put, List.setIfInBounds_toArray, List.set_cons_zero, List.set_cons_succ]
  refine wpAnyH_take (i := 1) (oi := ({ dst := some 7, op := Go.Op.fieldAddr 27 (Go.Operand.tmp 1) 0, type := 0, pos := "show.go:21", after := #[], guard := none } : Go.Oper)) (v := ?_) rfl (by kernel_rfl) (by kernel_rfl) (by kernel_rfl) (fun _ _ _ h => h) (Or.inl ⟨by rfl, ?_⟩) (by assumption) ?_
  rotate_left 1
  · intro w hSw; (try dsimp only at hSw); first | (go_simp; done) | (go_simp; with_reducible rfl)
  try simp only [Act.put, List.setIfInBounds_toArray, List.set_cons_zero, List.set_cons_succ]
  refine wpAnyH_take (i := 2) (oi := ({ dst := some 8, op := Go.Op.load 23 (Go.Operand.tmp 7), type := 23, pos := "show.go:21", after := #[{ on := 1, ground := Go.Ground.data }], guard := none } : Go.Oper)) (v := ?_) rfl (by kernel_rfl) (by kernel_rfl) (by kernel_rfl) (fun _ _ _ h => h) (Or.inl ⟨by rfl, ?_⟩) (by assumption) ?_
  rotate_left 1
  · intro w hSw; (try dsimp only at hSw); first | (go_simp; done) | (go_simp; with_reducible rfl)
  try simp only [Act.put, List.setIfInBounds_toArray, List.set_cons_zero, List.set_cons_succ]
  refine wpAnyH_take (i := 6) (oi := ({ dst := some 12, op := Go.Op.fieldAddr 27 (Go.Operand.tmp 1) 1, type := 0, pos := "show.go:21", after := #[], guard := none } : Go.Oper)) (v := ?_) rfl (by kernel_rfl) (by kernel_rfl) (by kernel_rfl) (fun _ _ _ h => h) (Or.inl ⟨by rfl, ?_⟩) (by assumption) ?_
  rotate_left 1
  · intro w hSw; (try dsimp only at hSw); first | (go_simp; done) | (go_simp; with_reducible rfl)
  try simp only [Act.put, List.setIfInBounds_toArray, List.set_cons_zero, List.set_cons_succ]
  refine wpAnyH_take (i := 7) (oi := ({ dst := some 13, op := Go.Op.load 9 (Go.Operand.tmp 12), type := 9, pos := "show.go:21", after := #[{ on := 6, ground := Go.Ground.data }], guard := none } : Go.Oper)) (v := ?_) rfl (by kernel_rfl) (by kernel_rfl) (by kernel_rfl) (fun _ _ _ h => h) (Or.inl ⟨by rfl, ?_⟩) (by assumption) ?_
  rotate_left 1
  · intro w hSw; (try dsimp only at hSw); first | (go_simp; done) | (go_simp; with_reducible rfl)
  try simp only [Act.put, List.setIfInBounds_toArray, List.set_cons_zero, List.set_cons_succ]
  refine wpAnyH_ready (rs := [3]) (by kernel_rfl) (by simp) ?_
  refine AllReadyH.cons (o := ({ dst := some 9, op := Go.Op.call { callee := Go.Callee.value (Go.Operand.func 82), args := #[Go.Operand.tmp 8, Go.Operand.func 83], argTypes := #[23, 72] }, type := 9, pos := "show.go:21", after := #[{ on := 2, ground := Go.Ground.data }], guard := none } : Go.Oper)) rfl (fun K hK => ?_) AllReadyH.nil
  go_simp
  (go_at_call 82; (with_reducible refine HJ.out.mono ?_); rintro e w3 ⟨rfl, f3⟩; have HB3 := Lib.hid (HBB.out.trans (f3.below.mono (by have := HB2.out.lt; have := HBB.out.size; omega))); have HSA := Lib.hid (HS.out w3 HB3.out); have HD3 := Lib.hid ((HB2.out.keep (Fr.refl No w2).drew).keep f3); clear f3)
  try (go_wp2_with fail)
  refine hK.out _ _ (HSA.out) (fun hHeld1 => ?_)
  clear hK K
  try simp only [Act.put, List.setIfInBounds_toArray, List.set_cons_zero, List.set_cons_succ]
  refine wpAnyH_take (i := 4) (oi := ({ dst := some 10, op := Go.Op.binOp Go.BinOp.add 9 (Go.Operand.const (Go.Value.string { data := #[83, 69, 76, 69, 67, 84, 32] })) (Go.Operand.tmp 9) 9, type := 9, pos := "show.go:21", after := #[{ on := 3, ground := Go.Ground.data }], guard := none } : Go.Oper)) (v := ?_) rfl (by kernel_rfl) (by kernel_rfl) (by kernel_rfl) (fun _ _ _ h => h) (Or.inl ⟨by rfl, ?_⟩) (by assumption) ?_
  rotate_left 1
  · intro w hSw; (try dsimp only at hSw); first | (go_simp; done) | (go_simp; with_reducible rfl)
  try simp only [Act.put, List.setIfInBounds_toArray, List.set_cons_zero, List.set_cons_succ]
  refine wpAnyH_take (i := 5) (oi := ({ dst := some 11, op := Go.Op.binOp Go.BinOp.add 9 (Go.Operand.tmp 10) (Go.Operand.const (Go.Value.string { data := #[32, 70, 82, 79, 77, 32] })) 9, type := 9, pos := "show.go:21", after := #[{ on := 4, ground := Go.Ground.data }], guard := none } : Go.Oper)) (v := ?_) rfl (by kernel_rfl) (by kernel_rfl) (by kernel_rfl) (fun _ _ _ h => h) (Or.inl ⟨by rfl, ?_⟩) (by assumption) ?_
  rotate_left 1
  · intro w hSw; (try dsimp only at hSw); first | (go_simp; done) | (go_simp; with_reducible rfl)
  try simp only [Act.put, List.setIfInBounds_toArray, List.set_cons_zero, List.set_cons_succ]
  refine wpAnyH_take (i := 8) (oi := ({ dst := some 14, op := Go.Op.binOp Go.BinOp.add 9 (Go.Operand.tmp 11) (Go.Operand.tmp 13) 9, type := 9, pos := "show.go:21", after := #[{ on := 5, ground := Go.Ground.data }, { on := 7, ground := Go.Ground.data }], guard := none } : Go.Oper)) (v := ?_) rfl (by kernel_rfl) (by kernel_rfl) (by kernel_rfl) (fun _ _ _ h => h) (Or.inl ⟨by rfl, ?_⟩) (by assumption) ?_
  rotate_left 1
  · intro w hSw; (try dsimp only at hSw); first | (go_simp; done) | (go_simp; with_reducible rfl)
  try simp only [Act.put, List.setIfInBounds_toArray, List.set_cons_zero, List.set_cons_succ]
  refine wpAnyH_ready (rs := [9]) (by kernel_rfl) (by simp) ?_
  refine AllReadyH.cons (o := ({ dst := some 15, op := Go.Op.call { callee := Go.Callee.value (Go.Operand.func 81), args := #[Go.Operand.tmp 6, Go.Operand.tmp 14], argTypes := #[111, 9] }, type := 117, pos := "show.go:21", after := #[{ on := 0, ground := Go.Ground.data }, { on := 8, ground := Go.Ground.data }, { on := 3, ground := Go.Ground.chain }], guard := none } : Go.Oper)) rfl (fun K hK => ?_) AllReadyH.nil
  go_simp
  have HW4 := Lib.hid (HWRT.out w3 [] Z HD3.out (by have := HZL.out; simp; omega))
  rw [List.nil_append] at HW4
  (go_at_call 81; (with_reducible refine HW4.out.mono ?_); rintro e w4 ⟨⟨n, rfl⟩, hd4, f4⟩; have HB4 := Lib.hid (HB3.out.trans f4); have HSB := Lib.hid (HS.out w4 HB4.out); have HD4 := Lib.hid hd4; clear f4 hd4)
  try (go_wp2_with fail)
  refine hK.out _ _ (HSB.out) (fun hHeld2 => ?_)
  clear hK K
  try simp only [Act.put, List.setIfInBounds_toArray, List.set_cons_zero, List.set_cons_succ]
  refine wpAnyH_done (by kernel_rfl) ?_ _
  have HREST : Hid (∀ w' t, Below (b0 + 1) w2 w' → Bd w' (b0 + 1) t → t = ST → Calls Tryz.prog 87 #[.pointer (some ⟨b0 + 1, 0, none⟩)] w' (fun e w'' => e = .returned (sv ST) ∧ Fr No w w'')) := Lib.hid fun w' t hb hd ht => by
    subst ht
    refine (Tryz.Builder_String_any_k (b0 + 1) (b0 + 1) t w' hd (Nat.le_of_lt hd.lt)).mono ?_
    rintro e w'' ⟨rfl, -, hb2, -⟩
    exact ⟨rfl, (HAT.out w'' (hb.trans hb2)).2.2.2.2.2⟩
  have e2 : w4.cell? ⟨b0, 2, none⟩ = some (.pointer px) := (HAT.out w4 HB4.out).2.1.cell 2
  have e3 : w4.cell? ⟨b0, 3, none⟩ = some (.bool q.grouped) := (HAT.out w4 HB4.out).2.1.cell 3
  have e4 : w4.cell? ⟨b0, 4, none⟩ = some (.slice A2 q.groups.length c2) := (HAT.out w4 HB4.out).2.1.cell 4
  have HGRP : Hid (∀ w' t, q.grouped = true → Below (b0 + 1) w2 w' → Bd w' (b0 + 1) t → t.length + (grpsT q).length ≤ 100000000 → Calls Tryz.prog 85 #[.slice A2 q.groups.length c2, .func (.func 86) #[] #[]] w' (TellsT (jn (q.groups.map groupT)) w')) := Lib.hid fun w' t hg hb hd hl => by
    obtain ⟨g1, g2, g3⟩ := rightGs_parts H4.out hg
    refine joined85_any w' (HAT.out w' hb).1 (HAT.out w' hb).2.2.2.2.1 g1 (by omega) g3 ?_
    unfold grpsT at hl
    rw [if_pos hg] at hl
    simp at hl; omega
  rcases (cdTo_of q.cond 0 _ (HAT.out w4 HB4.out).2.2.2.1).ptr with ⟨hc, e⟩ | ⟨hc, g, o, e⟩
  · obtain rfl : px = none := by injection e
    clear e
    have e3 : w4.cell? ⟨b0, 3, none⟩ = some (.bool q.grouped) := (HAT.out w4 HB4.out).2.1.cell 3
    have e4 : w4.cell? ⟨b0, 4, none⟩ = some (.slice A2 q.groups.length c2) := (HAT.out w4 HB4.out).2.1.cell 4
    cases hgd : q.grouped with
    | false =>
      rw [hgd] at e3
      have HE := Lib.hid (HREST.out w4 _ HB4.out HD4.out (by rw [HEQ.out]; unfold grpsT; rw [if_neg (by rw [hgd]; decide)]; unfold whereT; rw [if_pos hc]; simp))
      go_wp2_with fail
      refine HE.out.mono ?_
      rintro e w9 ⟨rfl, f9⟩
      have HF9 := Lib.hid f9
      clear f9
      go_wp2_with fail
      go_ret
      exact ⟨rfl, HF9.out⟩
    | true =>
      rw [hgd] at e3
      have hgt : grpsT q = [32, 71, 82, 79, 85, 80, 32, 66, 89, 32] ++ jn (q.groups.map groupT) := by unfold grpsT; rw [if_pos hgd]
      have HG := Lib.hid (HGRP.out w4 _ hgd HB4.out HD4.out (by have := HLW.out; skip; omega))
      have hjl : (jn (q.groups.map groupT)).length ≤ 100000000 := by have := HLW.out; rw [hgt] at this; simp at this; omega
      have HLT : Hid ((Z).length + (grpsT q).length ≤ 200000000) := Lib.hid (by have := HLW.out; skip; omega)
      have HEE : Hid (Z ++ grpsT q = ST) := Lib.hid (by rw [HEQ.out]; unfold whereT; rw [if_pos hc]; simp)
      obtain ⟨Y, hY⟩ : ∃ Y, jn (q.groups.map groupT) = Y := ⟨_, rfl⟩
      rw [hY] at HG hgt hjl
      have a5 : ∀ w0, (Op.stringOp .add ⟨#[32, 71, 82, 79, 85, 80, 32, 66, 89, 32]⟩ ⟨Y.toArray⟩).run Tryz.prog w0 = .ok (.string ⟨([32, 71, 82, 79, 85, 80, 32, 66, 89, 32] ++ Y).toArray⟩) w0 := fun w0 => run_cat [32, 71, 82, 79, 85, 80, 32, 66, 89, 32] Y (by unfold maxLen; simp; omega) w0
      rw [← hgt] at a5
      obtain ⟨Y2, hY2⟩ : ∃ Y, grpsT q = Y := ⟨_, rfl⟩
      rw [hY2] at a5 HLT HEE
      clear hgt hjl hY hY2
      go_wp2_with fail
      refine HG.out.mono ?_
      rintro e w7 ⟨rfl, f7⟩
      have HB7 := Lib.hid (HB4.out.trans (f7.below.mono (Nat.le_of_lt HD4.out.lt)))
      have HW8 := Lib.hid (HWRT.out w7 _ Y2 (HD4.out.keep f7) HLT.out)
      clear f7
      go_wp2_with fail
      refine HW8.out.mono ?_
      rintro e w8 ⟨⟨n8, rfl⟩, hd8, f8⟩
      have HE := Lib.hid (HREST.out w8 _ (HB7.out.trans f8) hd8 HEE.out)
      clear hd8 f8
      go_wp2_with fail
      refine HE.out.mono ?_
      rintro e w9 ⟨rfl, f9⟩
      have HF9 := Lib.hid f9
      clear f9
      go_wp2_with fail
      go_ret
      exact ⟨rfl, HF9.out⟩
  · obtain rfl : px = some ⟨g, o, none⟩ := by injection e
    obtain ⟨m, hm⟩ := H3.out.resolve_left hc
    have hwt : whereT q.cond = [32, 87, 72, 69, 82, 69, 32] ++ condT q.cond 0 := by unfold whereT; rw [if_neg hc]
    have hwl : (Z ++ [32, 87, 72, 69, 82, 69, 32] ++ condT q.cond 0).length + (grpsT q).length ≤ 100000000 := by have := HLW.out; rw [hwt] at this; simp at this ⊢; omega
    have HW5 := Lib.hid (HWRT.out w4 Z [32, 87, 72, 69, 82, 69, 32] HD4.out (by simp at hwl ⊢; omega))
    have HC5 : Hid (∀ w', Below (b0 + 1) w2 w' → Bd w' (b0 + 1) (Z ++ [32, 87, 72, 69, 82, 69, 32]) → Calls Tryz.prog 84 #[.pointer (some ⟨b0 + 1, 0, none⟩), .pointer (some ⟨g, o, none⟩), .int .i64 0] w' (WroteP (b0 + 1) (Z ++ [32, 87, 72, 69, 82, 69, 32] ++ condT q.cond 0) w')) := Lib.hid fun w' hb hd => showc_of H12.out hc (node_ok H12.out q.cond hc ⟨_, _, _, hm⟩) 0 (li := 0) rfl (fun k => K k ∧ k < b0) _ w' _ (fun k hk => by omega) (HAT.out w' hb).2.2.2.1 hd (HAT.out w' hb).1 (by simp at hwl ⊢; omega)
    have HWL := Lib.hid hwl
    have HWT := Lib.hid hwt
    have HCN := Lib.hid hc
    clear e hm hwl hwt hc
    go_wp2_with fail
    refine HW5.out.mono ?_
    rintro e w5 ⟨⟨n5, rfl⟩, hd5, f5⟩
    have HB5 := Lib.hid (HB4.out.trans f5)
    have HC6 := Lib.hid (HC5.out w5 HB5.out hd5)
    have e2 : w5.cell? ⟨b0, 2, none⟩ = some (.pointer (some ⟨g, o, none⟩)) := (HAT.out w5 HB5.out).2.1.cell 2
    clear hd5 f5
    go_wp2_with fail
    refine HC6.out.mono ?_
    rintro e w6 ⟨rfl, hd6, f6⟩
    have HB6 := Lib.hid (HB5.out.trans f6)
    have HD6 := Lib.hid hd6
    clear hd6 f6
    have e3 : w6.cell? ⟨b0, 3, none⟩ = some (.bool q.grouped) := (HAT.out w6 HB6.out).2.1.cell 3
    have e4 : w6.cell? ⟨b0, 4, none⟩ = some (.slice A2 q.groups.length c2) := (HAT.out w6 HB6.out).2.1.cell 4
    cases hgd : q.grouped with
    | false =>
      rw [hgd] at e3
      have HE := Lib.hid (HREST.out w6 _ HB6.out HD6.out (by rw [HEQ.out]; unfold grpsT; rw [if_neg (by rw [hgd]; decide)]; unfold whereT; rw [if_neg HCN.out]; simp))
      go_wp2_with fail
      refine HE.out.mono ?_
      rintro e w9 ⟨rfl, f9⟩
      have HF9 := Lib.hid f9
      clear f9
      go_wp2_with fail
      go_ret
      exact ⟨rfl, HF9.out⟩
    | true =>
      rw [hgd] at e3
      have hgt : grpsT q = [32, 71, 82, 79, 85, 80, 32, 66, 89, 32] ++ jn (q.groups.map groupT) := by unfold grpsT; rw [if_pos hgd]
      have HG := Lib.hid (HGRP.out w6 _ hgd HB6.out HD6.out (by have := HLW.out; have := HWL.out; omega))
      have hjl : (jn (q.groups.map groupT)).length ≤ 100000000 := by have := HLW.out; rw [hgt] at this; simp at this; omega
      have HLT : Hid (((Z ++ [32, 87, 72, 69, 82, 69, 32] ++ condT q.cond 0)).length + (grpsT q).length ≤ 200000000) := Lib.hid (by have := HLW.out; have := HWL.out; omega)
      have HEE : Hid ((Z ++ [32, 87, 72, 69, 82, 69, 32] ++ condT q.cond 0) ++ grpsT q = ST) := Lib.hid (by rw [HEQ.out]; unfold whereT; rw [if_neg HCN.out]; simp)
      obtain ⟨Y, hY⟩ : ∃ Y, jn (q.groups.map groupT) = Y := ⟨_, rfl⟩
      rw [hY] at HG hgt hjl
      have a5 : ∀ w0, (Op.stringOp .add ⟨#[32, 71, 82, 79, 85, 80, 32, 66, 89, 32]⟩ ⟨Y.toArray⟩).run Tryz.prog w0 = .ok (.string ⟨([32, 71, 82, 79, 85, 80, 32, 66, 89, 32] ++ Y).toArray⟩) w0 := fun w0 => run_cat [32, 71, 82, 79, 85, 80, 32, 66, 89, 32] Y (by unfold maxLen; simp; omega) w0
      rw [← hgt] at a5
      obtain ⟨Y2, hY2⟩ : ∃ Y, grpsT q = Y := ⟨_, rfl⟩
      rw [hY2] at a5 HLT HEE
      clear hgt hjl hY hY2
      go_wp2_with fail
      refine HG.out.mono ?_
      rintro e w7 ⟨rfl, f7⟩
      have HB7 := Lib.hid (HB6.out.trans (f7.below.mono (Nat.le_of_lt HD6.out.lt)))
      have HW8 := Lib.hid (HWRT.out w7 _ Y2 (HD6.out.keep f7) HLT.out)
      clear f7
      go_wp2_with fail
      refine HW8.out.mono ?_
      rintro e w8 ⟨⟨n8, rfl⟩, hd8, f8⟩
      have HE := Lib.hid (HREST.out w8 _ (HB7.out.trans f8) hd8 HEE.out)
      clear hd8 f8
      go_wp2_with fail
      refine HE.out.mono ?_
      rintro e w9 ⟨rfl, f9⟩
      have HF9 := Lib.hid f9
      clear f9
      go_wp2_with fail
      go_ret
      exact ⟨rfl, HF9.out⟩
end Go.Proofs.YtkcnbmgaeompjaaGreatDoor
/- Show. -/
namespace Go.Proofs.YtkcnbmgaeompjaaGreatDoor
open Go.RowKit Go.Maps
set_option linter.unusedVariables false

/-- What Show tells. -/
def ShowP (q : Qy) (w : World) (e : Ending) (w' : World) : Prop := e = .returned (.tuple #[sv (showB q).1, .int .i64 ((showB q).2 : Nat)]) ∧ Fr No w w'
set_option maxRecDepth 100000 in
set_option maxHeartbeats 4000000 in
theorem show_any {K : Nat → Prop} (q : Qy) (v : Value) (w : World) (hp : Pv w) (h : QyAt K w q v) (hlen : rightQ q = true → (showT q).length ≤ 100000000) : Calls Tryz.prog 16 #[v] w (ShowP q w) := by
  obtain ⟨A1, c1, px, A2, c2, rfl, -, -⟩ := (qyTo_of (d := 0) h).qv
  unfold qyV at *
  obtain ⟨w1, hw1⟩ : ∃ w1, w.alloc (.cells #[.slice A1 q.items.length c1, sv q.table, .pointer px, .bool q.grouped, .slice A2 q.groups.length c2] 27) = w1 := ⟨_, rfl⟩
  obtain ⟨z, hz⟩ : ∃ z, w.heap.size = z := ⟨_, rfl⟩
  have f1 : Fr No w w1 := by rw [← hw1]; exact (Fr.refl No w).alloc _
  have hb1 : Blk w1 z 27 #[.slice A1 q.items.length c1, sv q.table, .pointer px, .bool q.grouped, .slice A2 q.groups.length c2] := by rw [← hw1, ← hz]; exact Blk.new w 27 _
  have hq1 : QyAt K w1 q (.agg #[.slice A1 q.items.length c1, sv q.table, .pointer px, .bool q.grouped, .slice A2 q.groups.length c2]) := h.mono fun k hk hkl => ⟨hk, f1.block k hkl id⟩
  have HR := Lib.hid (right_query (d := 32) (Nat.le_refl _) K q _ w1 (hp.no f1).lr (qyTo_of hq1))
  have HT : Hid (rightQ q = true → ∀ w2, Fr No w1 w2 → Calls Tryz.prog 34 #[.agg #[.slice A1 q.items.length c1, sv q.table, .pointer px, .bool q.grouped, .slice A2 q.groups.length c2]] w2 (TellsT (showT q) w2)) := Lib.hid fun hr w2 f2 => querytext_any q _ w2 ((hp.no f1).no f2) (hq1.mono fun k hk hkl => ⟨hk, f2.block k hkl id⟩) hr (hlen hr)
  have c0 : w1.cell? ⟨z, 0, none⟩ = some (.slice A1 q.items.length c1) := hb1.cell 0
  have d1 : w1.cell? ⟨z, 1, none⟩ = some (sv q.table) := hb1.cell 1
  have d2 : w1.cell? ⟨z, 2, none⟩ = some (.pointer px) := hb1.cell 2
  have d3 : w1.cell? ⟨z, 3, none⟩ = some (.bool q.grouped) := hb1.cell 3
  have d4 : w1.cell? ⟨z, 4, none⟩ = some (.slice A2 q.groups.length c2) := hb1.cell 4
  have HB1 := Lib.hid hb1
  have HF1 := Lib.hid f1
  have HW1 := Lib.hid hw1
  have HZ := Lib.hid hz
  have HLEN := Lib.hid hlen
  clear h hp hb1 f1 hw1 hz hq1 hlen
  go_enter Tryz.func16, Tryz.ntmps16
  go_upto_region 1 with fail
  rw [HZ.out, HW1.out]
  go_wp2_with fail
  refine HR.out.mono ?_
  rintro e w2 ⟨rfl, f2⟩
  have HF2 := Lib.hid (HF1.out.trans f2 fun _ _ h => h)
  cases hr : rightQ q with
  | false =>
    have HV : Hid (showB q = ([], 1)) := Lib.hid (by unfold showB; rw [if_neg (by rw [hr]; decide)])
    clear f2 c0 d1 d2 d3 d4
    go_wp2_with fail
    refine bodyPost_ret (v := .tuple #[sv [], .int .i64 1]) (by simp [results, Tryz.results16, go_sem]) rfl ?_
    exact ⟨by rw [HV.out]; rfl, HF2.out⟩
  | true =>
    have HQ := Lib.hid (HT.out hr w2 f2)
    have hb2 := HB1.out.of (f2.block z HB1.out.lt id)
    have c0 : w2.cell? ⟨z, 0, none⟩ = some (.slice A1 q.items.length c1) := hb2.cell 0
    have d1 : w2.cell? ⟨z, 1, none⟩ = some (sv q.table) := hb2.cell 1
    have d2 : w2.cell? ⟨z, 2, none⟩ = some (.pointer px) := hb2.cell 2
    have d3 : w2.cell? ⟨z, 3, none⟩ = some (.bool q.grouped) := hb2.cell 3
    have d4 : w2.cell? ⟨z, 4, none⟩ = some (.slice A2 q.groups.length c2) := hb2.cell 4
    have HV : Hid (showB q = if 4096 < (showT q).length then ([], 45) else (showT q, 0)) := Lib.hid (by unfold showB; rw [if_pos hr])
    obtain ⟨T, hT⟩ : ∃ T, showT q = T := ⟨_, rfl⟩
    rw [hT] at HQ HV
    have HSZ := Lib.hid (sz T)
    have HTL : Hid (T.length ≤ 100000000) := Lib.hid (by rw [← hT]; exact HLEN.out hr)
    clear f2 hb2 hT
    go_wp2_with fail
    refine HQ.out.mono ?_
    rintro e w3 ⟨rfl, f3⟩
    have HF3 := Lib.hid (HF2.out.trans f3 fun _ _ h => h)
    clear f3 c0 d1 d2 d3 d4
    by_cases hl : 4096 < T.length
    · have hl' : ((4096 : Int) < (T.length : Nat)) = True := eq_true (by omega)
      have HV2 : Hid (showB q = ([], 45)) := Lib.hid (by rw [HV.out, if_pos hl])
      clear hl
      go_wp2_with fail
      refine bodyPost_ret (v := .tuple #[sv [], .int .i64 45]) (by simp [results, Tryz.results16, go_sem]) rfl ?_
      exact ⟨by rw [HV2.out]; rfl, HF3.out⟩
    · have hl' : ((4096 : Int) < (T.length : Nat)) = False := eq_false (by omega)
      have HV2 : Hid (showB q = (T, 0)) := Lib.hid (by rw [HV.out, if_neg hl])
      clear hl
      go_wp2_with fail
      refine bodyPost_ret (v := .tuple #[sv T, .int .i64 0]) (by simp [results, Tryz.results16, go_sem]) rfl ?_
      exact ⟨by rw [HV2.out]; rfl, HF3.out⟩
end Go.Proofs.YtkcnbmgaeompjaaGreatDoor
