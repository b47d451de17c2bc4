/- The document's own scheduler: a latch opens. -/
import Derived.Test.YtnonidoeakhfdaaG8
namespace Go.Proofs.Ytnonidoeakhfdaa
open Go.RowKit Go.Maps Go.Sort
set_option linter.unusedVariables false

def ZT.hit (n : Int) (T : ZT) : Bool := T.kind == 2 && T.num == n
def ZT.opn (n : Int) (T : ZT) : ZT := if T.hit n then { T with kind := 0 } else T
def opTo (l : List ZT) (n : Int) (k : Nat) : List ZT := (l.take k).map (ZT.opn n) ++ l.drop k
def opCnt (l : List ZT) (n : Int) : Nat := (l.filter (ZT.hit n)).length
theorem opTo_get {l : List ZT} {n : Int} {k : Nat} {T : ZT} (h : l[k]? = some T) : (opTo l n k)[k]? = some T := by
  have hk := (List.getElem?_eq_some_iff.1 h).1
  unfold opTo
  rw [List.getElem?_append_right (by rw [List.length_map, List.length_take]; omega), List.length_map, List.length_take, Nat.min_eq_left (by omega), List.getElem?_drop]
  simpa using h
theorem opTo_succ {l : List ZT} {n : Int} {k : Nat} {T : ZT} (h : l[k]? = some T) : opTo l n (k + 1) = (opTo l n k).set k (T.opn n) := by
  have hk := (List.getElem?_eq_some_iff.1 h).1
  have hdr : l.drop k = T :: l.drop (k + 1) := by
    obtain ⟨hk', rfl⟩ := List.getElem?_eq_some_iff.1 h
    exact List.drop_eq_getElem_cons hk'
  unfold opTo
  have hl : ((l.take k).map (ZT.opn n)).length = k := by rw [List.length_map, List.length_take]; omega
  rw [List.set_append_right _ _ (by omega), hl, Nat.sub_self, hdr, List.set_cons_zero, List.take_add_one, h, List.map_append]
  simp
theorem opTo_same {l : List ZT} {n : Int} {k : Nat} {T : ZT} (h : l[k]? = some T) (hh : T.hit n = false) : opTo l n (k + 1) = opTo l n k := by
  rw [opTo_succ h]
  have : T.opn n = T := by unfold ZT.opn; rw [hh]; rfl
  rw [this]
  refine List.ext_getElem? fun i => ?_
  by_cases e : i = k
  · subst e
    rw [List.getElem?_set_self (by have := (List.getElem?_eq_some_iff.1 (opTo_get (n := n) h)).1; exact this), opTo_get h]
  · rw [List.getElem?_set_ne (Ne.symm e)]
theorem opTo_all {l : List ZT} {n : Int} {k : Nat} (h : l.length ≤ k) : opTo l n k = l.map (ZT.opn n) := by
  unfold opTo
  rw [List.take_of_length_le h, List.drop_of_length_le h, List.append_nil]
theorem opCnt_succ {l : List ZT} {n : Int} {k : Nat} {T : ZT} (h : l[k]? = some T) : opCnt (l.take (k + 1)) n = opCnt (l.take k) n + if T.hit n then 1 else 0 := by
  unfold opCnt
  rw [List.take_add_one, h, List.filter_append, List.length_append]
  congr 1
  simp only [Option.toList, List.filter_cons, List.filter_nil]
  split <;> rfl
def ZS.opened (Z : ZS) (n : Int) : ZS := { Z with opens := Z.opens ++ [n], tasks := Z.tasks.map (ZT.opn n) }

section
variable {w wr w1 : World} {r : Nat} {V : Nat → Value} {Z : ZS}
theorem RAt.addo (h : RAt w r V Z) (n : Int) (hlen : Z.opens.length ≤ 1000000) :
    ∃ v' w1, (∃ A' c' m', v' = .slice A' m' c') ∧ (∀ ty, (Builtin.append_ #[29, 29] ty #[V 3, .slice (some ⟨w.heap.size, 0, none⟩) 1 1]).run Try.prog (w.alloc (.cells #[.int .i64 n] 3)) = .ok v' w1) ∧
      w1.cell? ⟨r, 4, none⟩ = some (V 3) ∧ w1.frozen? ⟨r, 4, none⟩ = false ∧ PRr r V w (upV V 3 v') { Z with opens := Z.opens ++ [n] } (w1.setCell ⟨r, 4, none⟩ v') := by
  obtain ⟨i0, hi0, hz0, hz1, hz2⟩ := info_parts info3
  have hrow : w.ownsRow 0 3 1 (V 3) (Z.rows 3).length (Z.rows 3).flatten := h.row 3 (by omega)
  have hl : (Z.rows 3).length = Z.opens.length := by simp [ZS.rows]
  obtain ⟨v', w', hr, ho', hgr, _, hat⟩ := run_append_own_at (P := Try.prog) (w.alloc (.cells #[.int .i64 n] 3)) 0 29 0 3 i0 (.int .i64 0) 1 8 Try.underlying29 hi0 hz0 hz1 hz2 rfl (by omega) (V 3) _ _ (World.ownsRow.alloc hrow _) ⟨w.heap.size, 0, none⟩ 1 1 [encZ n] rfl (cell_one_new _ _ _) (by simp [Value.oneCell']) (by unfold maxLen; omega) (by omega) (Nat.zero_le _)
  have hsw : (w.alloc (.cells #[.int .i64 n] 3)).heap.size = w.heap.size + 1 := by simp
  have hf : Fr (fun k => (V 3).ownBlock = some k) w w' := ((Fr.refl _ w).alloc _).grown hgr fun k hk _ => hk
  have hb1 : Blk w' r 31 #[.int .i64 Z.last, V 0, V 1, V 2, V 3] := h.blk.of (hf.block r h.blk.lt fun e => h.ne_r (i := 3) (by omega) e rfl)
  refine ⟨v', w', ?_, fun ty => hr, hb1.cell 4, hb1.frozen _, h.turn (i := 3) (Z' := { Z with opens := Z.opens ++ [n] }) (by omega) hf ?_ (fun k hk => ?_) (fun j hj hne => ?_) rfl⟩
  · rcases ho'.2 with ⟨e, h0⟩ | ⟨g, cap, cur, e, _⟩
    · exact ⟨_, _, _, e⟩
    · exact ⟨_, _, _, e⟩
  · show w'.ownsRow 0 3 1 v' ((Z.opens ++ [n]).map oc).length ((Z.opens ++ [n]).map oc).flatten
    rw [List.map_append, List.length_append, List.flatten_append]
    exact ho'
  · rcases hat with e | e
    · left; rw [← e]; exact hk
    · right
      rw [hk] at e
      have e' : k = (w.alloc (.cells #[.int .i64 n] 3)).heap.size := by simpa using e
      omega
  · have : j = 0 ∨ j = 1 ∨ j = 2 := by omega
    rcases this with rfl | rfl | rfl <;> rfl
end

set_option maxHeartbeats 400000 in
theorem zopens_neg (r : Nat) (n : Int) (w : World) (hn : n < 0) :
    Calls Try.prog 33 #[.pointer (some ⟨r, 0, none⟩), .int .i64 n] w fun e w' => e = .returned (.int .i64 0) ∧ w = w' := by
  go_enter Try.func33, Try.ntmps33
  go_wp2
  go_ret
  exact ⟨rfl, rfl⟩

set_option maxRecDepth 100000 in
set_option maxHeartbeats 2000000 in
theorem zopens (r : Nat) (V : Nat → Value) (Z : ZS) (n : Int) (w : World) (h : RAt w r V Z) (hn : 0 ≤ n) (h64 : Z.tasks.length ≤ 64) (hlen : Z.opens.length ≤ 100000) :
    Calls Try.prog 33 #[.pointer (some ⟨r, 0, none⟩), .int .i64 n] w fun e w' => e = .returned (.int .i64 (opCnt Z.tasks n : Nat)) ∧ Postr r V w (Z.opened n) w' := by
  obtain ⟨_, _, _, _, c4⟩ := h.cells
  obtain ⟨v', w1, ⟨A', c', m', rfl⟩, hr, d4, f4, h1⟩ := h.addo n (by omega)
  obtain ⟨w2, hw2⟩ : ∃ w2, w1.setCell ⟨r, 4, none⟩ (.slice A' m' c') = w2 := ⟨_, rfl⟩
  rw [hw2] at h1
  have HW2 := Lib.hid hw2
  have HR := Lib.hid hr
  have H1 := Lib.hid h1
  obtain ⟨V1, hV1⟩ : ∃ V1, upV V 3 (.slice A' m' c') = V1 := ⟨_, rfl⟩
  have h1' := H1.out
  rw [hV1] at h1'
  have H1 : Hid (PRr r V w V1 { Z with opens := Z.opens ++ [n] } w2) := Lib.hid h1'
  clear h hr h1 h1' hw2 hV1
  go_enter Try.func33, Try.ntmps33
  go_upto_region 4 with (at_builtin; refine wpList_addt 29 rfl _ _ rfl _ _ _ _ rfl rfl (HR.out _) ?_)
  rw [HW2.out]
  clear HW2 HR c4 d4 f4
  go_wp2
  go_loopw [5, 6] (fun cv iv wr => ∃ k : Nat, k ≤ Z.tasks.length ∧ iv = .int .i64 k ∧ cv = .int .i64 (opCnt (Z.tasks.take k) n : Nat) ∧ PRr r V w V1 { Z with opens := Z.opens ++ [n], tasks := opTo Z.tasks n k } wr) (fun _ iv _ => Z.tasks.length - (intOf iv).toNat)
  case atStart => exact ⟨0, Nat.zero_le _, rfl, rfl, by unfold opTo; simpa using H1.out⟩
  case round =>
    obtain ⟨k, hk, rfl, rfl, hP⟩ := hrel
    have HP := Lib.hid hP
    have hR := hP.at_
    obtain ⟨_, c1, _⟩ := hR.cells
    have hol : (opTo Z.tasks n k).length = Z.tasks.length := by unfold opTo; simp; omega
    have hlen : ∀ ty W, (Builtin.len_ #[27] ty #[V1 0]).run Try.prog W = .ok (.int .i64 (Z.tasks.length : Nat)) W := fun ty W => by rw [← hol]; exact hR.tlen ty W
    have hcb : opCnt (Z.tasks.take k) n ≤ 64 := by
      unfold opCnt
      refine Nat.le_trans (List.length_filter_le _ _) ?_
      rw [List.length_take]; omega
    clear hP hol
    by_cases hlt : k < Z.tasks.length
    · obtain ⟨T, hT⟩ : ∃ T, Z.tasks[k]? = some T := ⟨_, List.getElem?_eq_getElem hlt⟩
      obtain ⟨g, o, hA⟩ := hR.task (k := k) (opTo_get hT)
      have hix := hA.ix
      have hkd := hA.kind
      have hnm := hA.num
      have hfz := hA.frozen 1 (by omega)
      have hcs := opCnt_succ (n := n) hT
      by_cases e : T.kind = 2
      · by_cases e2 : T.num = n
        · have hh : T.hit n = true := by unfold ZT.hit; simp [e, e2]
          have h2 := HP.out.trans (hR.tset (T' := T.opn n) (x := .int .i64 0) (j := 1) (opTo_get hT) hA (by omega) (by unfold ZT.opn; rw [hh]; rfl))
          have hs := opTo_succ (n := n) hT
          rw [hh] at hcs
          have H2 : Hid (PRr r V w V1 { Z with opens := Z.opens ++ [n], tasks := opTo Z.tasks n (k + 1) } (wr.setCell ⟨g, o + 1, none⟩ (.int .i64 0))) := Lib.hid (by rw [hs]; exact h2)
          have HC := Lib.hid hcs
          rw [e] at hkd
          rw [e2] at hnm
          clear hA hT hR h2 hs hcs e e2 hh HP
          go_wp2
          go_roundw
          case rel => exact ⟨k + 1, by omega, by go_num, by rw [HC.out]; rfl, H2.out⟩
          case measure => simp [intOf]; omega
        · have hh : T.hit n = false := by unfold ZT.hit; simp [e, e2]
          have hs := opTo_same hT hh
          rw [hh] at hcs
          have hne : (T.num == n) = false := by simpa using e2
          have H2 : Hid (PRr r V w V1 { Z with opens := Z.opens ++ [n], tasks := opTo Z.tasks n (k + 1) } wr) := Lib.hid (by rw [hs]; exact HP.out)
          have HC := Lib.hid hcs
          rw [e] at hkd
          clear hA hT hR hs hcs e e2 hh HP
          go_wp2
          go_roundw
          case rel => exact ⟨k + 1, by omega, by go_num, by rw [HC.out]; rfl, H2.out⟩
          case measure => simp [intOf]; omega
      · have hh : T.hit n = false := by unfold ZT.hit; simp [e]
        have hs := opTo_same hT hh
        rw [hh] at hcs
        have hne : (T.kind == 2) = false := by simpa using e
        have H2 : Hid (PRr r V w V1 { Z with opens := Z.opens ++ [n], tasks := opTo Z.tasks n (k + 1) } wr) := Lib.hid (by rw [hs]; exact HP.out)
        have HC := Lib.hid hcs
        clear hA hT hR hs hcs e hh HP
        go_wp2
        go_roundw
        case rel => exact ⟨k + 1, by omega, by go_num, by rw [HC.out]; rfl, H2.out⟩
        case measure => simp [intOf]; omega
    · have hall := opTo_all (n := n) (l := Z.tasks) (k := k) (by omega)
      have hP2 := HP.out
      rw [hall] at hP2
      have HF := Lib.hid hP2
      have htk : Z.tasks.take k = Z.tasks := List.take_of_length_le (by omega)
      rw [htk]
      clear hR hall hP2 HP htk
      go_wp2
      go_ret
      exact ⟨rfl, HF.out.post⟩

end Go.Proofs.Ytnonidoeakhfdaa
