/- A Save. -/
import Derived.Test.YtikpojnmaiplnaaGreatDoorM4
import Derived.Test.YtikpojnmaiplnaaGreatDoorM2
import Derived.Laws.StructEq
import Derived.Test.YtikpojnmaiplnaaGreatDoorTie
import Derived.Test.YtikpojnmaiplnaaGreatDoorCards
import Derived.Deep.DeepHandedRow
import Derived.Deep.DeepWitnessRowRef
import Derived.Lib.LaidTab
import Derived.Lib.LaidIn
import Derived.LaidMore
import Derived.Stop.LaidErr
import Derived.ProofKit
import Derived.SizedLaws
import Derived.SliceStrings
import Derived.SevenTiedAt
namespace Go.Proofs.YtikpojnmaiplnaaGreatDoor
open Go.RowKit Go.Maps Go.Sort
set_option linter.unusedVariables false

theorem stepsW_len {N : Nat} {S : AS} (h : Inv N S) (file data : List UInt8) : (stepsW S file data).length ≤ 136 := by
  have h1 := keys_len h.names
  have h2 : (others S file).length ≤ 64 := by
    unfold others
    rw [List.length_map]
    exact Nat.le_trans (List.length_filter_le _ _) h1
  have h3 : (((sortedKeys S.names).filter (pre1 file)).map Stp.remove).length ≤ 64 := by
    rw [List.length_map]
    exact Nat.le_trans (List.length_filter_le _ _) h1
  unfold stepsW
  rw [List.length_append, List.length_append]
  have h4 : (if others S file = [] then [] else others S file ++ [Stp.settle]).length ≤ 65 := by
    split
    · simp
    · rw [List.length_append, List.length_singleton]; omega
  have h5 : ([Stp.write file data, .sync file, .settle, .mani file, .syncF, .renameF, .settle] : List Stp).length = 7 := rfl
  omega
theorem facts_len (l : List FactP) : (WS.zero.facts l).data.length ≤ 65536 := by
  have h : ∀ (m : List FactP) (S : WS), S.data.length ≤ 65536 → (m.foldl WS.fact S).data.length ≤ 65536 := by
    intro m
    induction m with
    | nil => intro S h; exact h
    | cons f m ih =>
      intro S h
      refine ih _ ?_
      have ht : ∀ (l : List (List UInt8)) (S : WS), S.data.length ≤ 65536 → (l.foldl WS.text S).data.length ≤ 65536 := by
        intro l
        induction l with
        | nil => intro S h; exact h
        | cons s l ih => intro S h; exact ih _ (lay_len _ (count_len _ h))
      have hi : ∀ (l : List Int) (S : WS), S.data.length ≤ 65536 → (l.foldl WS.int S).data.length ≤ 65536 := by
        intro l
        induction l with
        | nil => intro S h; exact h
        | cons s l ih => intro S h; exact ih _ (lay_len _ h)
      exact hi _ _ (count_len _ (ht _ _ (count_len _ h)))
  exact h l _ (count_len _ (by simp [WS.zero]))
theorem catB_len : ∀ (l : List (List FactP)) (acc : List UInt8) (m : Nat), acc.length ≤ 65544 * m → (catB l acc).1.length ≤ 65544 * (m + l.length)
  | [], acc, m, h => by simpa [catB] using h
  | b :: l, acc, m, h => by
    unfold catB
    split
    · have h2 := catB_len l (acc ++ frameR (WS.zero.facts b).data) (m + 1) (by
        rw [List.length_append, frameR_len]
        have := facts_len b
        omega)
      rw [List.length_cons]
      have e : m + 1 + l.length = m + (l.length + 1) := by omega
      rw [e] at h2
      exact h2
    · simp
theorem headW_len (c : CkP) : (headW c).data.length ≤ 65536 := by
  have ht : ∀ (l : List (List UInt8)) (S : WS), S.data.length ≤ 65536 → (l.foldl WS.text S).data.length ≤ 65536 := by
    intro l
    induction l with
    | nil => intro S h; exact h
    | cons s l ih => intro S h; exact ih _ (lay_len _ (count_len _ h))
  have hi : ∀ (l : List Int) (S : WS), S.data.length ≤ 65536 → (l.foldl WS.int S).data.length ≤ 65536 := by
    intro l
    induction l with
    | nil => intro S h; exact h
    | cons s l ih => intro S h; exact ih _ (lay_len _ h)
  exact count_len _ (hi _ _ (count_len _ (ht _ _ (count_len _ (ht _ _ (count_len _ (lay_len _ (by simp [WS.zero]))))))))
theorem bytesP_len (c : CkP) (h : c.bats.length ≤ 2000000000) : (bytesP c).1.length ≤ maxLen := by
  unfold bytesP
  split
  · simp
  · split
    · have h2 := catB_len c.bats (frameR (headW c).data) 1 (by rw [frameR_len]; have := headW_len c; omega)
      unfold maxLen
      omega
    · simp
/-- The steps done one behind the other. -/
def SaveP (w : World) (X : Nat → Prop) (d N : Nat) (r : AS × Int) (e : Ending) (w' : World) : Prop := e = .returned (.int .i64 r.2) ∧ Dk w' X d (N + 200) r.1 ∧ Fr (fun k => ¬ X k) w w'
set_option maxRecDepth 100000 in
set_option maxHeartbeats 1000000 in
theorem save_any {w : World} {X : Nat → Prop} {d N : Nat} {S : AS} (h : Dk w X d N S) (hN : N + 200 ≤ 1000000000000) (hv : Vr w) (K : Nat → Prop) (c : CkP) (dv mv vv bv : Value) (hck : CkAt K w c dv mv vv bv) (hK : ∀ k, K k → k < w.heap.size) (hn : c.bats.length ≤ 2000000000) :
    Calls Tryz.prog 27 #[.pointer (some ⟨d, 0, none⟩), ckv c dv mv vv bv] w (SaveP w X d N (saveW S c)) := by
  obtain ⟨B, hB⟩ : ∃ B, w.heap.size = B := ⟨_, rfl⟩
  obtain ⟨A1, n1, k1, A2, n2, k2, A3, n3, k3, A4, n4, k4, rfl, rfl, rfl, rfl⟩ := hck.forms
  obtain ⟨w1, hw1⟩ : ∃ w1, w.alloc (.cells #[.int .i64 c.seq, .slice A1 n1 k1, .slice A2 n2 k2, .slice A3 n3 k3, .slice A4 n4 k4] 28) = w1 := ⟨_, rfl⟩
  have f1 : Fr No w w1 := by rw [← hw1]; exact (Fr.refl _ w).alloc _
  have hd1 := h.keep f1
  have CO := Lib.hid (x_on hd1)
  have hck1 : CkAt K w1 c (.slice A1 n1 k1) (.slice A2 n2 k2) (.slice A3 n3 k3) (.slice A4 n4 k4) := hck.of fun k hk => f1.block k (hK k hk) id
  have CB := bytes_any K c _ _ _ _ w1 hck1 (fun k hk => Nat.lt_of_lt_of_le (hK k hk) f1.size) hn
  have HSV : Hid (saveW S c = if S.on = false then (S, 13) else if (bytesP c).2 ≠ 0 then (S, (bytesP c).2) else if (validW S).2 ≠ 0 then (S, (validW S).2) else runAll S (stepsW S (fileW ((validW S).1 + 1)) (bytesP c).1)) := Lib.hid rfl
  have hblen := bytesP_len c hn
  -- nothing was done
  have hnone : ∀ E w', Fr No w w' → saveW S c = (S, E) → SaveP w X d N (saveW S c) (.returned (.int .i64 E)) w' := fun E w' hf he => by
    rw [he]
    exact ⟨rfl, (h.keep hf).more (by omega) hN, hf.any⟩
  have HNONE := Lib.hid hnone
  have HD := Lib.hid h
  have HV := Lib.hid hv
  have HW1 := Lib.hid hw1
  have HF1 := Lib.hid f1
  have HB := Lib.hid hB
  have HNN := Lib.hid hN
  unfold ckv at CB ⊢
  have HVC := Lib.hid (validW_cases S)
  have HVA := Lib.hid (fun (w' : World) (hf : Fr No w w') => valid_any (h.keep hf) (hv.keep hf))
  generalize bytesP c = bb at *
  obtain ⟨D, E1⟩ := bb
  simp only at CB HSV hblen
  have HCB := Lib.hid CB
  have HBL := Lib.hid hblen
  have hs1 : w1.heap.size = B + 1 := by rw [← hw1]; simp [hB]
  have hbx : Blk w1 B 28 #[.int .i64 c.seq, .slice A1 n1 k1, .slice A2 n2 k2, .slice A3 n3 k3, .slice A4 n4 k4] := by rw [← hw1, ← hB]; exact Blk.new w 28 _
  have x0 : w1.cell? ⟨B, 0, none⟩ = some (.int .i64 c.seq) := hbx.cell 0
  have x1 : w1.cell? ⟨B, 1, none⟩ = some (.slice A1 n1 k1) := hbx.cell 1
  have x2 : w1.cell? ⟨B, 2, none⟩ = some (.slice A2 n2 k2) := hbx.cell 2
  have x3 : w1.cell? ⟨B, 3, none⟩ = some (.slice A3 n3 k3) := hbx.cell 3
  have x4 : w1.cell? ⟨B, 4, none⟩ = some (.slice A4 n4 k4) := hbx.cell 4
  clear hbx
  have HS1 := Lib.hid hs1
  clear h hv hck hck1 CB hd1 hnone hw1 f1 hB hK hn hblen hN hs1
  by_cases hon : S.on = true
  · have HON : Hid (S.on = true) := Lib.hid hon
    rw [hon] at CO
    by_cases h1 : E1 = 0
    · subst h1
      generalize validW S = v at *
      obtain ⟨nv, E2⟩ := v
      simp only at HVA HSV HVC
      by_cases h2 : E2 = 0
      · subst h2
        have hnv : 0 ≤ nv ∧ nv ≤ 99999999 := by
          rcases HVC.out with ⟨h, _⟩ | h | ⟨m, h, h3, h4⟩
          · exact absurd rfl h
          · injection h with h5 _; omega
          · injection h with h5 _; omega
        have HSV2 : Hid (saveW S c = runAll S (stepsW S (fileW (nv + 1)) D)) := Lib.hid (by rw [HSV.out, hon]; rfl)
        have hfl : (fileW (nv + 1)).length ≤ maxLen := by
          unfold fileW
          split
          · simp
          · rename_i h5
            rw [List.length_append, List.length_drop, itoa9 (by omega) (by omega)]; decide
        have HFL := Lib.hid hfl
        have HFA := Lib.hid (fun (w' : World) (hf : Fr No w w') => file_any (nv + 1) w' (HV.out.keep hf) (by omega) (by omega))
        generalize fileW (nv + 1) = fl at *
        clear hon hfl HSV
        go_enter Tryz.func27, Tryz.ntmps27
        go_wp2_with fail
        rw [HW1.out, HB.out]
        refine CO.out.mono ?_
        rintro e w' ⟨rfl, rfl⟩
        go_wp2_with fail
        clear x0 x1 x2 x3 x4
        refine HCB.out.mono ?_
        rintro e w2 ⟨rfl, f2⟩
        have F2 := Lib.hid (HF1.out.trans f2 fun _ _ h => h)
        clear f2
        have C3 := Lib.hid (HVA.out w2 F2.out)
        go_wp2_with fail
        refine C3.out.mono ?_
        rintro e w3 ⟨rfl, f3⟩
        have F3 := Lib.hid (F2.out.trans f3 fun _ _ h => h)
        clear f3
        have C4 := Lib.hid (HFA.out w3 F3.out)
        have hsum : IntKind.i64.wrap (nv + 1) = nv + 1 := IntWalk.i64_in _ (by omega)
        go_wp2_with fail
        refine C4.out.mono ?_
        rintro e w4 ⟨rfl, f4⟩
        have F4 := Lib.hid (F3.out.trans f4 fun _ _ h => h)
        clear f4 hsum
        have C5' := cat_steps_any (HD.out.keep F4.out) HON.out (HV.out.keep F4.out) fl D HFL.out HBL.out
        unfold bp at C5'
        have C5 := Lib.hid C5'
        have hlen := stepsW_len HD.out.inv fl D
        clear C5'
        obtain ⟨L, hL⟩ : ∃ L, stepsW S fl D = L := ⟨_, rfl⟩
        rw [hL] at C5 HSV2 hlen
        clear hL
        go_wp2_with fail
        refine C5.out.mono ?_
        rintro e w5 ⟨A, n, cc, rfl, hnl, hg, f5⟩
        have F5 : Fr No w w5 := F4.out.trans f5 fun _ _ h => h
        obtain ⟨Y, hY⟩ : ∃ Y : Nat → Prop, (fun k => X k ∨ (B ≤ k ∧ k < w5.heap.size)) = Y := ⟨_, rfl⟩
        have hsz5 := F5.size
        have hbw := HB.out
        have hd5 : Dk w5 Y d N S := by
          rw [← hY]
          exact HD.out.grow F5.any fun k hk => by
            rcases hk with hk | hk
            · exact ⟨Nat.lt_of_lt_of_le (HD.out.base k hk) hsz5, .inl hk⟩
            · exact ⟨hk.2, .inr (by omega)⟩
        have hXY : ∀ k, X k → Y k := fun k hk => by rw [← hY]; exact .inl hk
        have hNY : ∀ k, k < w.heap.size → ¬ Y k → ¬ X k := fun k _ hk hx => hk (hXY k hx)
        have hrow : RowE (fun k => B ≤ k ∧ k < w5.heap.size) w5 1 (stpG d (fun k => B ≤ k ∧ k < w5.heap.size) w5) (.slice A n cc) L := by
          have h4s := F4.out.size
          have q := (hg.row (stpG_elem d) (by unfold maxLen; omega)).bound (by omega)
          exact (q.mono fun k hk => ⟨by omega, hk.2⟩).imp fun s cs hs => (stpG_elem d).mono _ _ w5 w5 s cs hs fun k hk hlt => ⟨⟨by omega, hlt⟩, rfl⟩
        have HROW := Lib.hid hrow
        have HD5 := Lib.hid hd5
        have HXY := Lib.hid hXY
        have HNY := Lib.hid hNY
        have HF5 := Lib.hid F5
        have HY : Hid (∀ k, B ≤ k ∧ k < w5.heap.size → Y k) := Lib.hid fun k hk => by rw [← hY]; exact .inr hk
        have HNL := Lib.hid hnl
        have hn136 : n ≤ 136 := by omega
        clear hnl hg f5 F5 hY hsz5 hbw hd5 hXY hNY hrow hlen C5 C4 C3
        go_wp2
        go_loopw [39] (fun i wr => ∃ (j : Nat) (Sj : AS), j ≤ n ∧ i = .int .i64 j ∧ Dk wr Y d (N + j) Sj ∧ Fr (fun k => ¬ Y k) w5 wr ∧ runAll S L = runAll Sj (L.drop j)) (fun i _ => n - (intOf i).toNat)
        case atStart => exact ⟨0, S, by omega, rfl, HD5.out, Fr.refl _ _, rfl⟩
        case round =>
          obtain ⟨j, Sj, hj, rfl, hdk, hfr, hrun⟩ := hrel
          have hfw : Fr (fun k => ¬ X k) w wr := HF5.out.any.trans hfr fun k hk hy => HNY.out k hk hy
          by_cases hlt : j < n
          · have hjl : j < L.length := by have := HNL.out; omega
            have hN1 : N + j + 1 ≤ 1000000000000 := by have := HNN.out; omega
            have hrow : RowE (fun k => B ≤ k ∧ k < w5.heap.size) wr 1 (stpG d (fun k => B ≤ k ∧ k < w5.heap.size) wr) (.slice A n cc) L := HROW.out.of (fun k hk => hfr.block k hk.2 fun hy => hy (HY.out k hk)) fun s cs hs => (stpG_elem d).mono _ _ w5 wr s cs hs fun k hk hlt => ⟨hk, hfr.block k hlt fun hy => hy (HY.out k hk)⟩
            obtain ⟨A', c', e', _, hel⟩ := hrow
            injection e' with ea eb ec
            subst ea
            obtain ⟨g, off, rfl, hg, hcell⟩ := hel (by omega)
            obtain ⟨cs, _, hcs2, hst⟩ := hcell j hjl
            have hc0 := hcs2 0 (by omega)
            simp only [Nat.mul_one, Nat.add_zero] at hc0
            have hdr : L.drop j = L[j] :: L.drop (j + 1) := List.drop_eq_getElem_cons hjl
            have HNX : Hid ((Stp.run Sj L[j]).2 = 0 → runAll S L = runAll (Stp.run Sj L[j]).1 (L.drop (j + 1))) := Lib.hid fun h0 => by rw [hrun, hdr]; show (if (Stp.run Sj L[j]).2 = 0 then _ else _) = _; rw [if_pos h0]
            have HER : Hid ((Stp.run Sj L[j]).2 ≠ 0 → ∀ w6, Dk w6 Y d (N + j + 1) (Stp.run Sj L[j]).1 → Fr (fun k => ¬ Y k) wr w6 → SaveP w X d N (saveW S c) (.returned (.int .i64 (Stp.run Sj L[j]).2)) w6) := Lib.hid fun h0 w6 h6 f6 => by
              have e1 : saveW S c = Stp.run Sj L[j] := by rw [HSV2.out, hrun, hdr]; show (if (Stp.run Sj L[j]).2 = 0 then _ else _) = _; rw [if_neg h0]
              rw [e1]
              exact ⟨rfl, (h6.less HXY.out).more (by omega) HNN.out, hfw.trans f6 fun k hk hy => HNY.out k hk hy⟩
            have HFR := Lib.hid hfr
            generalize L[j] = s at *
            clear hcell hcs2 hel hrun hfr hfw hdr eb ec
            cases s with
            | write a t =>
              obtain ⟨ha, ht, gd, gf, gt, rfl, ⟨_, x0⟩, ⟨_, x1⟩, ⟨_, x2⟩⟩ := hst
              have C := clo_write hdk hN1 a t ha ht gd gf gt x0 x1 x2
              have hc : wr.cell? ⟨g, off + j, none⟩ = some _ := hc0
              generalize Stp.run Sj (.write a t) = r at *
              obtain ⟨S', E⟩ := r
              simp only at HNX HER
              unfold bp at C hc
              have HC := Lib.hid C
              clear hc0 C x0 x1 x2
              by_cases hE : E = 0
              · subst hE
                go_wp2_with (go_at_call 109; refine HC.out.mono ?_; rintro e w6 ⟨rfl, h6, f6⟩; have H6 := Lib.hid h6; have F6 := Lib.hid f6; clear h6 f6)
                go_roundw
                case rel => exact ⟨j + 1, S', by omega, by go_num, H6.out, HFR.out.trans F6.out fun _ _ h => h, HNX.out (by trivial)⟩
                case measure => simp [intOf]; omega
              · have hEb : (E != 0) = true := by simpa using hE
                go_wp2_with (go_at_call 109; refine HC.out.mono ?_; rintro e w6 ⟨rfl, h6, f6⟩; have H6 := Lib.hid h6; have F6 := Lib.hid f6; clear h6 f6)
                go_ret
                exact HER.out hE w6 H6.out F6.out
            | sync a =>
              obtain ⟨ha, gd, gf, rfl, ⟨_, x0⟩, ⟨_, x1⟩⟩ := hst
              have C := clo_sync hdk hN1 a ha gd gf x0 x1
              have hc : wr.cell? ⟨g, off + j, none⟩ = some _ := hc0
              generalize Stp.run Sj (.sync a) = r at *
              obtain ⟨S', E⟩ := r
              simp only at HNX HER
              unfold bp at C hc
              have HC := Lib.hid C
              clear hc0 C x0 x1
              by_cases hE : E = 0
              · subst hE
                go_wp2_with (go_at_call 111; refine HC.out.mono ?_; rintro e w6 ⟨rfl, h6, f6⟩; have H6 := Lib.hid h6; have F6 := Lib.hid f6; clear h6 f6)
                go_roundw
                case rel => exact ⟨j + 1, S', by omega, by go_num, H6.out, HFR.out.trans F6.out fun _ _ h => h, HNX.out (by trivial)⟩
                case measure => simp [intOf]; omega
              · have hEb : (E != 0) = true := by simpa using hE
                go_wp2_with (go_at_call 111; refine HC.out.mono ?_; rintro e w6 ⟨rfl, h6, f6⟩; have H6 := Lib.hid h6; have F6 := Lib.hid f6; clear h6 f6)
                go_ret
                exact HER.out hE w6 H6.out F6.out
            | settle =>
              obtain rfl := hst
              have C := clo_settle hdk hN1
              have hc : wr.cell? ⟨g, off + j, none⟩ = some _ := hc0
              generalize Stp.run Sj (.settle) = r at *
              obtain ⟨S', E⟩ := r
              simp only at HNX HER
              unfold bp at C hc
              have HC := Lib.hid C
              clear hc0 C
              by_cases hE : E = 0
              · subst hE
                go_wp2_with (go_at_call 113; refine HC.out.mono ?_; rintro e w6 ⟨rfl, h6, f6⟩; have H6 := Lib.hid h6; have F6 := Lib.hid f6; clear h6 f6)
                go_roundw
                case rel => exact ⟨j + 1, S', by omega, by go_num, H6.out, HFR.out.trans F6.out fun _ _ h => h, HNX.out (by trivial)⟩
                case measure => simp [intOf]; omega
              · have hEb : (E != 0) = true := by simpa using hE
                go_wp2_with (go_at_call 113; refine HC.out.mono ?_; rintro e w6 ⟨rfl, h6, f6⟩; have H6 := Lib.hid h6; have F6 := Lib.hid f6; clear h6 f6)
                go_ret
                exact HER.out hE w6 H6.out F6.out
            | mani a =>
              obtain ⟨ha, gd, gf, rfl, ⟨_, x0⟩, ⟨_, x1⟩⟩ := hst
              have C := clo_mani hdk hN1 a ha gd gf x0 x1
              have hc : wr.cell? ⟨g, off + j, none⟩ = some _ := hc0
              generalize Stp.run Sj (.mani a) = r at *
              obtain ⟨S', E⟩ := r
              simp only at HNX HER
              unfold bp at C hc
              have HC := Lib.hid C
              clear hc0 C x0 x1
              by_cases hE : E = 0
              · subst hE
                go_wp2_with (go_at_call 114; refine HC.out.mono ?_; rintro e w6 ⟨rfl, h6, f6⟩; have H6 := Lib.hid h6; have F6 := Lib.hid f6; clear h6 f6)
                go_roundw
                case rel => exact ⟨j + 1, S', by omega, by go_num, H6.out, HFR.out.trans F6.out fun _ _ h => h, HNX.out (by trivial)⟩
                case measure => simp [intOf]; omega
              · have hEb : (E != 0) = true := by simpa using hE
                go_wp2_with (go_at_call 114; refine HC.out.mono ?_; rintro e w6 ⟨rfl, h6, f6⟩; have H6 := Lib.hid h6; have F6 := Lib.hid f6; clear h6 f6)
                go_ret
                exact HER.out hE w6 H6.out F6.out
            | syncF =>
              obtain ⟨gd, rfl, ⟨_, x0⟩⟩ := hst
              have C := clo_syncF hdk hN1 gd x0
              have hc : wr.cell? ⟨g, off + j, none⟩ = some _ := hc0
              generalize Stp.run Sj (.syncF) = r at *
              obtain ⟨S', E⟩ := r
              simp only at HNX HER
              unfold bp at C hc
              have HC := Lib.hid C
              clear hc0 C x0
              by_cases hE : E = 0
              · subst hE
                go_wp2_with (go_at_call 116; refine HC.out.mono ?_; rintro e w6 ⟨rfl, h6, f6⟩; have H6 := Lib.hid h6; have F6 := Lib.hid f6; clear h6 f6)
                go_roundw
                case rel => exact ⟨j + 1, S', by omega, by go_num, H6.out, HFR.out.trans F6.out fun _ _ h => h, HNX.out (by trivial)⟩
                case measure => simp [intOf]; omega
              · have hEb : (E != 0) = true := by simpa using hE
                go_wp2_with (go_at_call 116; refine HC.out.mono ?_; rintro e w6 ⟨rfl, h6, f6⟩; have H6 := Lib.hid h6; have F6 := Lib.hid f6; clear h6 f6)
                go_ret
                exact HER.out hE w6 H6.out F6.out
            | renameF =>
              obtain ⟨gd, rfl, ⟨_, x0⟩⟩ := hst
              have C := clo_renameF hdk hN1 gd x0
              have hc : wr.cell? ⟨g, off + j, none⟩ = some _ := hc0
              generalize Stp.run Sj (.renameF) = r at *
              obtain ⟨S', E⟩ := r
              simp only at HNX HER
              unfold bp at C hc
              have HC := Lib.hid C
              clear hc0 C x0
              by_cases hE : E = 0
              · subst hE
                go_wp2_with (go_at_call 117; refine HC.out.mono ?_; rintro e w6 ⟨rfl, h6, f6⟩; have H6 := Lib.hid h6; have F6 := Lib.hid f6; clear h6 f6)
                go_roundw
                case rel => exact ⟨j + 1, S', by omega, by go_num, H6.out, HFR.out.trans F6.out fun _ _ h => h, HNX.out (by trivial)⟩
                case measure => simp [intOf]; omega
              · have hEb : (E != 0) = true := by simpa using hE
                go_wp2_with (go_at_call 117; refine HC.out.mono ?_; rintro e w6 ⟨rfl, h6, f6⟩; have H6 := Lib.hid h6; have F6 := Lib.hid f6; clear h6 f6)
                go_ret
                exact HER.out hE w6 H6.out F6.out
            | remove a =>
              obtain ⟨ha, gd, gf, rfl, ⟨_, x0⟩, ⟨_, x1⟩⟩ := hst
              have C := clo_remove hdk hN1 a ha gd gf x0 x1
              have hc : wr.cell? ⟨g, off + j, none⟩ = some _ := hc0
              generalize Stp.run Sj (.remove a) = r at *
              obtain ⟨S', E⟩ := r
              simp only at HNX HER
              unfold bp at C hc
              have HC := Lib.hid C
              clear hc0 C x0 x1
              by_cases hE : E = 0
              · subst hE
                go_wp2_with (go_at_call 163; refine HC.out.mono ?_; rintro e w6 ⟨rfl, h6, f6⟩; have H6 := Lib.hid h6; have F6 := Lib.hid f6; clear h6 f6)
                go_roundw
                case rel => exact ⟨j + 1, S', by omega, by go_num, H6.out, HFR.out.trans F6.out fun _ _ h => h, HNX.out (by trivial)⟩
                case measure => simp [intOf]; omega
              · have hEb : (E != 0) = true := by simpa using hE
                go_wp2_with (go_at_call 163; refine HC.out.mono ?_; rintro e w6 ⟨rfl, h6, f6⟩; have H6 := Lib.hid h6; have F6 := Lib.hid f6; clear h6 f6)
                go_ret
                exact HER.out hE w6 H6.out F6.out
          · obtain rfl : j = n := by omega
            have HFIN : Hid (SaveP w X d N (saveW S c) (.returned (.int .i64 0)) wr) := Lib.hid (by
              have e1 : saveW S c = (Sj, 0) := by rw [HSV2.out, hrun, HNL.out, List.drop_length]; rfl
              rw [e1]
              exact ⟨rfl, (hdk.less HXY.out).more (by omega) HNN.out, hfw⟩)
            clear hdk hfr hrun hfw
            go_wp2
            go_ret
            exact HFIN.out
      · have h2b : (E2 != 0) = true := by simpa using h2
        have HE : Hid (saveW S c = (S, E2)) := Lib.hid (by rw [HSV.out, hon, if_neg (by decide), if_neg (by simp), if_pos h2])
        clear hon h2 HSV
        go_enter Tryz.func27, Tryz.ntmps27
        go_wp2_with fail
        rw [HW1.out, HB.out]
        refine CO.out.mono ?_
        rintro e w' ⟨rfl, rfl⟩
        go_wp2_with fail
        clear x0 x1 x2 x3 x4
        refine HCB.out.mono ?_
        rintro e w2 ⟨rfl, f2⟩
        have F2 := Lib.hid (HF1.out.trans f2 fun _ _ h => h)
        clear f2
        have C3 := Lib.hid (HVA.out w2 F2.out)
        go_wp2_with fail
        refine C3.out.mono ?_
        rintro e w3 ⟨rfl, f3⟩
        have F3 := Lib.hid (F2.out.trans f3 fun _ _ h => h)
        clear f3
        go_wp2
        go_ret
        exact HNONE.out E2 w3 F3.out HE.out
    · have h1b : (E1 != 0) = true := by simpa using h1
      have HE : Hid (saveW S c = (S, E1)) := Lib.hid (by rw [HSV.out, hon, if_neg (by decide), if_pos h1])
      clear hon h1 HSV
      go_enter Tryz.func27, Tryz.ntmps27
      go_wp2_with fail
      rw [HW1.out, HB.out]
      refine CO.out.mono ?_
      rintro e w' ⟨rfl, rfl⟩
      go_wp2_with fail
      clear x0 x1 x2 x3 x4
      refine HCB.out.mono ?_
      rintro e w2 ⟨rfl, f2⟩
      have F2 := Lib.hid (HF1.out.trans f2 fun _ _ h => h)
      clear f2
      go_wp2
      go_ret
      exact HNONE.out E1 w2 F2.out HE.out
  · have hoff : S.on = false := by simpa using hon
    rw [hoff] at CO
    have HE : Hid (saveW S c = (S, 13)) := Lib.hid (by rw [HSV.out, if_pos hoff])
    clear hon hoff HSV
    go_enter Tryz.func27, Tryz.ntmps27
    go_wp2_with fail
    rw [HW1.out, HB.out]
    refine CO.out.mono ?_
    rintro e w' ⟨rfl, rfl⟩
    go_wp2
    go_ret
    exact HNONE.out 13 w1 HF1.out HE.out
end Go.Proofs.YtikpojnmaiplnaaGreatDoor
/- The document's bytes of a cell. -/
namespace Go.Proofs.YtikpojnmaiplnaaGreatDoor
open Go.RowKit Go.Maps Go.Sort
set_option linter.unusedVariables false

def ok2 (ok : Bool) (l : List UInt8) : List UInt8 := if ok = true then l else []
/-- Bytes, and whether a thing may be. -/
def Told2 (l : List UInt8) (ok : Bool) (w : World) (e : Ending) (w' : World) : Prop := e = .returned (.tuple #[sv (ok2 ok l), .bool ok]) ∧ Below w.heap.size w w'
theorem u64_nat (n : Int) : IntKind.u64.wrap n = (((n % 18446744073709551616).toNat : Nat) : Int) := by rw [IntKind.wrap_u64]; omega
set_option maxRecDepth 100000 in
set_option maxHeartbeats 4000000 in
theorem dcell_any (c : CellP) (w : World) (hb : c.kind = 2 → c.text.length ≤ 1152921504606846976) : Calls Tryz.prog 144 #[c.val] w (Told2 (bCell c) c.may w) := by
  obtain ⟨k, n, t⟩ := c
  have hbl : Below w.heap.size w (w.alloc (.cells #[.int .i64 k, .int .i64 n, sv t] 185)) := (Below.refl _ _).alloc (Nat.le_refl _) _
  have HB := Lib.hid hbl
  clear hbl
  unfold CellP.val Told2
  by_cases h0 : k = 0
  · subst h0
    have HQ : Hid (bCell ⟨0, n, t⟩ = [0]) := Lib.hid (by unfold bCell; simp [low])
    clear hb
    by_cases hn : n = 0
    · subst hn
      have HM : Hid (CellP.may ⟨0, 0, t⟩ = t.isEmpty) := Lib.hid (by simp [CellP.may])
      cases ht : t.isEmpty <;> rw [ht] at HM
      all_goals
        go_enter Tryz.func144, Tryz.ntmps144
        go_wp2
        go_ret2
        exact ⟨by rw [HM.out, HQ.out]; rfl, HB.out⟩
    · have HM : Hid (CellP.may ⟨0, n, t⟩ = false) := Lib.hid (by simp [CellP.may, hn])
      have h1 : (n == 0) = false := by simpa using hn
      clear hn
      go_enter Tryz.func144, Tryz.ntmps144
      go_wp2
      go_ret2
      exact ⟨by rw [HM.out, HQ.out]; rfl, HB.out⟩
  · by_cases h1 : k = 1
    · subst h1
      have HM : Hid (CellP.may ⟨1, n, t⟩ = t.isEmpty) := Lib.hid (by simp [CellP.may])
      have HQ : Hid (bCell ⟨1, n, t⟩ = [1] ++ enc8 n) := Lib.hid (by unfold bCell; simp [low])
      have hk := u64_nat n
      have HL := Lib.hid (fun w => Num_any (n % 18446744073709551616).toNat 8 w (by omega) (by omega))
      unfold Low at HL
      have he8 : low (n % 18446744073709551616).toNat 8 = enc8 n := rfl
      rw [he8] at HL
      have hl8 : (enc8 n).length = 8 := by unfold enc8; rw [low_len]
      have hcat : ∀ w0, (Op.stringOp .add ⟨#[1]⟩ ⟨(enc8 n).toArray⟩).run Tryz.prog w0 = .ok (.string ⟨([1] ++ enc8 n).toArray⟩) w0 := fun w0 => run_cat [1] _ (by rw [hl8]; simp) w0
      obtain ⟨X, hX⟩ : ∃ X, [1] ++ enc8 n = X := ⟨_, rfl⟩
      rw [hX] at HQ hcat
      generalize enc8 n = T at *
      generalize (n % 18446744073709551616).toNat = tt at *
      clear hX he8 hl8 hb h0
      cases ht : t.isEmpty <;> rw [ht] at HM
      · go_enter Tryz.func144, Tryz.ntmps144
        go_wp2
        go_ret2
        exact ⟨by rw [HM.out]; rfl, HB.out⟩
      · go_enter Tryz.func144, Tryz.ntmps144
        go_wp2_with fail
        refine (HL.out _).mono ?_
        rintro e w3 ⟨rfl, hb3⟩
        have B3 := Lib.hid (HB.out.trans (hb3.mono HB.out.size))
        clear hb3
        go_wp2
        go_ret2
        exact ⟨by rw [HM.out, HQ.out]; rfl, B3.out⟩
    · by_cases h2 : k = 2
      · subst h2
        have HM : Hid (CellP.may ⟨2, n, t⟩ = (n == 0)) := Lib.hid (by simp [CellP.may])
        have HQ : Hid (bCell ⟨2, n, t⟩ = [2] ++ bText t) := Lib.hid (by unfold bCell; simp [low])
        have htl := hb rfl
        simp only at htl
        have HL := Lib.hid (fun w => dtext_any t (by omega) w)
        unfold Told at HL
        have hl8 : (bText t).length = 4 + t.length := by unfold bText; rw [List.length_append, low_len]
        have hcat : ∀ w0, (Op.stringOp .add ⟨#[2]⟩ ⟨(bText t).toArray⟩).run Tryz.prog w0 = .ok (.string ⟨([2] ++ bText t).toArray⟩) w0 := fun w0 => run_cat [2] _ (by rw [hl8]; simp only [List.length_cons, List.length_nil]; omega) w0
        obtain ⟨X, hX⟩ : ∃ X, [2] ++ bText t = X := ⟨_, rfl⟩
        rw [hX] at HQ hcat
        generalize bText t = T at *
        clear hX hl8 hb h0 h1 htl
        by_cases hn : n = 0
        · subst hn
          go_enter Tryz.func144, Tryz.ntmps144
          go_wp2_with fail
          refine (HL.out _).mono ?_
          rintro e w3 ⟨rfl, hb3⟩
          have B3 := Lib.hid (HB.out.trans (hb3.mono HB.out.size))
          clear hb3
          go_wp2
          go_ret2
          exact ⟨by rw [HM.out, HQ.out]; rfl, B3.out⟩
        · have h1 : (n == 0) = false := by simpa using hn
          rw [h1] at HM
          clear hn
          go_enter Tryz.func144, Tryz.ntmps144
          go_wp2
          go_ret2
          exact ⟨by rw [HM.out]; rfl, HB.out⟩
      · have HM : Hid (CellP.may ⟨k, n, t⟩ = false) := Lib.hid (by simp [CellP.may, h0, h1, h2])
        have e0 : (k == 0) = false := by simpa using h0
        have e1 : (k == 1) = false := by simpa using h1
        have e2 : (k == 2) = false := by simpa using h2
        clear h0 h1 h2 hb
        go_enter Tryz.func144, Tryz.ntmps144
        go_wp2
        go_ret2
        exact ⟨by rw [HM.out]; rfl, HB.out⟩
end Go.Proofs.YtikpojnmaiplnaaGreatDoor
/- Two things that are the same. -/
namespace Go.Proofs.YtikpojnmaiplnaaGreatDoor
open Go.RowKit Go.Maps Go.Sort
set_option linter.unusedVariables false

theorem neq93 (a b : Int) (s : List UInt8) (w : World) : (binOp .neq 185 (.agg #[.int .i64 a, .int .i64 b, sv s]) (.agg #[.int .i64 a, .int .i64 b, sv s])).run Tryz.prog w = .ok (.bool false) w := by
  have hS : Tryz.prog.underlying 185 = some (.struct (Tryz.prog.fieldsOf 185)) := by kernel_rfl
  have hp : Tryz.prog.stoodInHeld 185 = false := by kernel_rfl
  rw [run_neq_struct, show (10000 : Nat) = 9999 + 1 from rfl, run_equalIn_agg w 9999 185 _ _ hS hp]
  simp only [Program.fieldsOf, Tryz.underlying185]
  simp [Op.eqFields, go_sem]

/-- The cells of element j of a row, in any world that has its block. -/
theorem RowE.at_ {α : Type} {K : Nat → Prop} {w : World} {size : Nat} {E : α → List Value → Prop} {A : Option Addr} {n c : Nat} {l : List α} (hn : l.length = n) (h : RowE K w size E (.slice A n c) l) (j : Nat) (hj : j < l.length) :
    ∃ g off cs, A = some ⟨g, off, none⟩ ∧ K g ∧ E l[j] cs ∧ cs.length = size ∧ ∀ w' : World, w'.heap[g]? = w.heap[g]? → ∀ i, i < size → w'.cell? ⟨g, off + j * size + i, none⟩ = cs[i]? := by
  obtain ⟨A', c', e, hm, hel⟩ := h
  injection e with e1 e2 e3
  subst e1
  obtain ⟨g, off, rfl, hg, hcell⟩ := hel (by omega)
  obtain ⟨cs, hl, hc, hE⟩ := hcell j hj
  exact ⟨g, off, cs, rfl, hg, hE, hl, fun w' hw i hi => (cell_of_heap hw).trans (hc i hi)⟩
theorem RowE.len_ {α : Type} {K : Nat → Prop} {w : World} {size : Nat} {E : α → List Value → Prop} {v : Value} {l : List α} (h : RowE K w size E v l) : ∃ A c, v = .slice A l.length c ∧ l.length ≤ maxLen := by
  obtain ⟨A, c, e, hm, _⟩ := h
  exact ⟨A, c, e, hm⟩

end Go.Proofs.YtikpojnmaiplnaaGreatDoor
/- normal: a thing with what its kind has alone. -/
namespace Go.Proofs.YtikpojnmaiplnaaGreatDoor
open Go.RowKit Go.Maps
set_option linter.unusedVariables false

theorem ThingAt.mono {K K' : Nat → Prop} {w : World} {t : ThingP} {lv cv fv mv : Value} (h : ThingAt K w t lv cv fv mv) (hk : ∀ k, K k → K' k) : ThingAt K' w t lv cv fv mv :=
  ⟨h.kb, h.nb, h.sb, h.l.mono hk, h.c.mono hk, (h.f.mono hk).of (fun _ _ => rfl) fun x cs hx => by
    obtain ⟨dv, mv, e, h1, h2⟩ := hx
    exact ⟨dv, mv, e, h1.mono hk, h2.mono hk⟩, h.m.mono hk⟩
theorem i64_mod (n : Int) : i64 (n % 256) := by unfold i64; omega
/-- A call that tells a thing, beside what was there. -/
def NPt (B : Nat) (w : World) (t : ThingP) (e : Ending) (w' : World) : Prop :=
  ∃ lv cv fv mv, e = .returned (.agg (tcells t lv cv fv mv).toArray) ∧ ThingAt (fun k => (k < B ∨ w.heap.size ≤ k) ∧ k < w'.heap.size) w' t lv cv fv mv ∧ Below w.heap.size w w'
end Go.Proofs.YtikpojnmaiplnaaGreatDoor
/- The document's bytes of a thing. -/
namespace Go.Proofs.YtikpojnmaiplnaaGreatDoor
open Go.RowKit Go.Maps Go.Sort
set_option linter.unusedVariables false

def okB (t : ThingP) : Bool := if t.kind = 2 then decide (0 ≤ t.n ∧ t.n ≤ 4294967295) else if t.kind = 5 then (one t.cells).may else if t.kind = 6 then t.cells.all CellP.may else true
theorem low_byte (n : Int) : low (n % 18446744073709551616).toNat 1 = low (n % 256).toNat 1 := by
  have h : (n % 18446744073709551616).toNat % 256 = (n % 256).toNat % 256 := by omega
  simp only [low, h]
set_option maxRecDepth 100000 in
set_option maxHeartbeats 4000000 in
theorem dbytes_0 (n : Int) (s : List UInt8) (l : List (List UInt8)) (cl : List CellP) (fl : List FactP) (ml : List (List UInt8)) (A1 A2 A3 A4 : Option Addr) (n1 k1 n2 k2 n3 k3 n4 k4 : Nat) (w : World) (ht : ThingAt (fun k => k < w.heap.size) w ⟨0, n, s, l, cl, fl, ml⟩ (.slice A1 n1 k1) (.slice A2 n2 k2) (.slice A3 n3 k3) (.slice A4 n4 k4)) :
    Calls Tryz.prog 84 #[.agg #[.int .i64 0, .int .i64 n, sv s, .slice A1 n1 k1, .slice A2 n2 k2, .slice A3 n3 k3, .slice A4 n4 k4]] w (Told2 (low (n % 256).toNat 1) (true) w) := by
  obtain ⟨wa, hwa⟩ : ∃ wa, w.alloc (.cells #[.int .i64 0, .int .i64 n, sv s, .slice A1 n1 k1, .slice A2 n2 k2, .slice A3 n3 k3, .slice A4 n4 k4] 86) = wa := ⟨_, rfl⟩
  obtain ⟨gb, hgb⟩ : ∃ gb, w.heap.size = gb := ⟨_, rfl⟩
  have hbx : Blk wa gb 86 #[.int .i64 0, .int .i64 n, sv s, .slice A1 n1 k1, .slice A2 n2 k2, .slice A3 n3 k3, .slice A4 n4 k4] := by rw [← hwa, ← hgb]; exact Blk.new w 86 _
  have hba : Below w.heap.size w wa := by rw [← hwa]; exact (Below.refl _ _).alloc (Nat.le_refl _) _
  have hta := (ht.of fun k hk => hba.block k hk).mono fun k hk => Nat.lt_of_lt_of_le hk hba.size
  have HX := Lib.hid hbx
  have HBA := Lib.hid hba
  have HT := Lib.hid hta
  have HWA := Lib.hid hwa
  have HGB := Lib.hid hgb
  unfold Told2
  have hk64 := u64_nat n
  have HL := Lib.hid (fun w => Num_any (n % 18446744073709551616).toNat 1 w (by omega) (by omega))
  unfold Low at HL
  rw [low_byte] at HL
  generalize low (n % 256).toNat 1 = T at *
  generalize (n % 18446744073709551616).toNat = tt at *
  clear hwa hgb hbx hba hta ht
  go_enter Tryz.func84, Tryz.ntmps84
  go_wp2_with fail
  refine (HL.out _).mono ?_
  rintro e w3 ⟨rfl, hb3⟩
  rw [HWA.out] at hb3
  have B3 := Lib.hid (HBA.out.trans (hb3.mono HBA.out.size))
  clear hb3
  go_wp2
  go_ret2
  exact ⟨rfl, B3.out⟩
set_option maxRecDepth 100000 in
set_option maxHeartbeats 4000000 in
theorem dbytes_1 (n : Int) (s : List UInt8) (l : List (List UInt8)) (cl : List CellP) (fl : List FactP) (ml : List (List UInt8)) (A1 A2 A3 A4 : Option Addr) (n1 k1 n2 k2 n3 k3 n4 k4 : Nat) (w : World) (ht : ThingAt (fun k => k < w.heap.size) w ⟨1, n, s, l, cl, fl, ml⟩ (.slice A1 n1 k1) (.slice A2 n2 k2) (.slice A3 n3 k3) (.slice A4 n4 k4)) :
    Calls Tryz.prog 84 #[.agg #[.int .i64 1, .int .i64 n, sv s, .slice A1 n1 k1, .slice A2 n2 k2, .slice A3 n3 k3, .slice A4 n4 k4]] w (Told2 (enc8 n) (true) w) := by
  obtain ⟨wa, hwa⟩ : ∃ wa, w.alloc (.cells #[.int .i64 1, .int .i64 n, sv s, .slice A1 n1 k1, .slice A2 n2 k2, .slice A3 n3 k3, .slice A4 n4 k4] 86) = wa := ⟨_, rfl⟩
  obtain ⟨gb, hgb⟩ : ∃ gb, w.heap.size = gb := ⟨_, rfl⟩
  have hbx : Blk wa gb 86 #[.int .i64 1, .int .i64 n, sv s, .slice A1 n1 k1, .slice A2 n2 k2, .slice A3 n3 k3, .slice A4 n4 k4] := by rw [← hwa, ← hgb]; exact Blk.new w 86 _
  have hba : Below w.heap.size w wa := by rw [← hwa]; exact (Below.refl _ _).alloc (Nat.le_refl _) _
  have hta := (ht.of fun k hk => hba.block k hk).mono fun k hk => Nat.lt_of_lt_of_le hk hba.size
  have HX := Lib.hid hbx
  have HBA := Lib.hid hba
  have HT := Lib.hid hta
  have HWA := Lib.hid hwa
  have HGB := Lib.hid hgb
  unfold Told2
  have hk64 := u64_nat n
  have HL := Lib.hid (fun w => Num_any (n % 18446744073709551616).toNat 8 w (by omega) (by omega))
  unfold Low at HL
  have he8 : low (n % 18446744073709551616).toNat 8 = enc8 n := rfl
  rw [he8] at HL
  clear he8
  generalize enc8 n = T at *
  generalize (n % 18446744073709551616).toNat = tt at *
  clear hwa hgb hbx hba hta ht
  go_enter Tryz.func84, Tryz.ntmps84
  go_wp2_with fail
  refine (HL.out _).mono ?_
  rintro e w3 ⟨rfl, hb3⟩
  rw [HWA.out] at hb3
  have B3 := Lib.hid (HBA.out.trans (hb3.mono HBA.out.size))
  clear hb3
  go_wp2
  go_ret2
  exact ⟨rfl, B3.out⟩
set_option maxRecDepth 100000 in
set_option maxHeartbeats 4000000 in
theorem dbytes_2 (n : Int) (s : List UInt8) (l : List (List UInt8)) (cl : List CellP) (fl : List FactP) (ml : List (List UInt8)) (A1 A2 A3 A4 : Option Addr) (n1 k1 n2 k2 n3 k3 n4 k4 : Nat) (w : World) (ht : ThingAt (fun k => k < w.heap.size) w ⟨2, n, s, l, cl, fl, ml⟩ (.slice A1 n1 k1) (.slice A2 n2 k2) (.slice A3 n3 k3) (.slice A4 n4 k4)) (h0 : 0 ≤ n) (h1 : n ≤ 4294967295) :
    Calls Tryz.prog 84 #[.agg #[.int .i64 2, .int .i64 n, sv s, .slice A1 n1 k1, .slice A2 n2 k2, .slice A3 n3 k3, .slice A4 n4 k4]] w (Told2 (low n.toNat 4) (true) w) := by
  obtain ⟨wa, hwa⟩ : ∃ wa, w.alloc (.cells #[.int .i64 2, .int .i64 n, sv s, .slice A1 n1 k1, .slice A2 n2 k2, .slice A3 n3 k3, .slice A4 n4 k4] 86) = wa := ⟨_, rfl⟩
  obtain ⟨gb, hgb⟩ : ∃ gb, w.heap.size = gb := ⟨_, rfl⟩
  have hbx : Blk wa gb 86 #[.int .i64 2, .int .i64 n, sv s, .slice A1 n1 k1, .slice A2 n2 k2, .slice A3 n3 k3, .slice A4 n4 k4] := by rw [← hwa, ← hgb]; exact Blk.new w 86 _
  have hba : Below w.heap.size w wa := by rw [← hwa]; exact (Below.refl _ _).alloc (Nat.le_refl _) _
  have hta := (ht.of fun k hk => hba.block k hk).mono fun k hk => Nat.lt_of_lt_of_le hk hba.size
  have HX := Lib.hid hbx
  have HBA := Lib.hid hba
  have HT := Lib.hid hta
  have HWA := Lib.hid hwa
  have HGB := Lib.hid hgb
  unfold Told2
  have hk64 := u64_nat n
  have hnn : (n % 18446744073709551616).toNat = n.toNat := by omega
  have HL := Lib.hid (fun w => Num_any n.toNat 4 w (by omega) (by omega))
  unfold Low at HL
  rw [hnn] at hk64
  clear hnn
  generalize low n.toNat 4 = T at *
  generalize n.toNat = tt at *
  clear hwa hgb hbx hba hta ht
  go_enter Tryz.func84, Tryz.ntmps84
  go_wp2_with fail
  refine (HL.out _).mono ?_
  rintro e w3 ⟨rfl, hb3⟩
  rw [HWA.out] at hb3
  have B3 := Lib.hid (HBA.out.trans (hb3.mono HBA.out.size))
  clear hb3
  go_wp2
  go_ret2
  exact ⟨rfl, B3.out⟩
set_option maxRecDepth 100000 in
set_option maxHeartbeats 4000000 in
theorem dbytes_2n (n : Int) (s : List UInt8) (l : List (List UInt8)) (cl : List CellP) (fl : List FactP) (ml : List (List UInt8)) (A1 A2 A3 A4 : Option Addr) (n1 k1 n2 k2 n3 k3 n4 k4 : Nat) (w : World) (ht : ThingAt (fun k => k < w.heap.size) w ⟨2, n, s, l, cl, fl, ml⟩ (.slice A1 n1 k1) (.slice A2 n2 k2) (.slice A3 n3 k3) (.slice A4 n4 k4)) (hx : ¬ (0 ≤ n ∧ n ≤ 4294967295)) :
    Calls Tryz.prog 84 #[.agg #[.int .i64 2, .int .i64 n, sv s, .slice A1 n1 k1, .slice A2 n2 k2, .slice A3 n3 k3, .slice A4 n4 k4]] w (Told2 (low n.toNat 4) (false) w) := by
  obtain ⟨wa, hwa⟩ : ∃ wa, w.alloc (.cells #[.int .i64 2, .int .i64 n, sv s, .slice A1 n1 k1, .slice A2 n2 k2, .slice A3 n3 k3, .slice A4 n4 k4] 86) = wa := ⟨_, rfl⟩
  obtain ⟨gb, hgb⟩ : ∃ gb, w.heap.size = gb := ⟨_, rfl⟩
  have hbx : Blk wa gb 86 #[.int .i64 2, .int .i64 n, sv s, .slice A1 n1 k1, .slice A2 n2 k2, .slice A3 n3 k3, .slice A4 n4 k4] := by rw [← hwa, ← hgb]; exact Blk.new w 86 _
  have hba : Below w.heap.size w wa := by rw [← hwa]; exact (Below.refl _ _).alloc (Nat.le_refl _) _
  have hta := (ht.of fun k hk => hba.block k hk).mono fun k hk => Nat.lt_of_lt_of_le hk hba.size
  have HX := Lib.hid hbx
  have HBA := Lib.hid hba
  have HT := Lib.hid hta
  have HWA := Lib.hid hwa
  have HGB := Lib.hid hgb
  unfold Told2
  clear hwa hgb hbx hba hta ht
  have hc : n < 0 ∨ (0 ≤ n ∧ 4294967295 < n) := by omega
  clear hx
  rcases hc with hc | ⟨hc, hd⟩
  all_goals
    go_enter Tryz.func84, Tryz.ntmps84
    go_wp2
    go_ret2
    exact ⟨rfl, by rw [HWA.out]; exact HBA.out⟩
set_option maxRecDepth 100000 in
set_option maxHeartbeats 4000000 in
theorem dbytes_3 (n : Int) (s : List UInt8) (l : List (List UInt8)) (cl : List CellP) (fl : List FactP) (ml : List (List UInt8)) (A1 A2 A3 A4 : Option Addr) (n1 k1 n2 k2 n3 k3 n4 k4 : Nat) (w : World) (ht : ThingAt (fun k => k < w.heap.size) w ⟨3, n, s, l, cl, fl, ml⟩ (.slice A1 n1 k1) (.slice A2 n2 k2) (.slice A3 n3 k3) (.slice A4 n4 k4)) (hb : (bText s).length ≤ 1152921504606846976) :
    Calls Tryz.prog 84 #[.agg #[.int .i64 3, .int .i64 n, sv s, .slice A1 n1 k1, .slice A2 n2 k2, .slice A3 n3 k3, .slice A4 n4 k4]] w (Told2 (bText s) (true) w) := by
  obtain ⟨wa, hwa⟩ : ∃ wa, w.alloc (.cells #[.int .i64 3, .int .i64 n, sv s, .slice A1 n1 k1, .slice A2 n2 k2, .slice A3 n3 k3, .slice A4 n4 k4] 86) = wa := ⟨_, rfl⟩
  obtain ⟨gb, hgb⟩ : ∃ gb, w.heap.size = gb := ⟨_, rfl⟩
  have hbx : Blk wa gb 86 #[.int .i64 3, .int .i64 n, sv s, .slice A1 n1 k1, .slice A2 n2 k2, .slice A3 n3 k3, .slice A4 n4 k4] := by rw [← hwa, ← hgb]; exact Blk.new w 86 _
  have hba : Below w.heap.size w wa := by rw [← hwa]; exact (Below.refl _ _).alloc (Nat.le_refl _) _
  have hta := (ht.of fun k hk => hba.block k hk).mono fun k hk => Nat.lt_of_lt_of_le hk hba.size
  have HX := Lib.hid hbx
  have HBA := Lib.hid hba
  have HT := Lib.hid hta
  have HWA := Lib.hid hwa
  have HGB := Lib.hid hgb
  unfold Told2
  have hsl : (bText s).length = 4 + s.length := by unfold bText; rw [List.length_append, low_len]
  have HL := Lib.hid (fun w => dtext_any s (by omega) w)
  clear hsl hb
  unfold Told at HL
  generalize bText s = T at *
  clear hwa hgb hbx hba hta ht
  go_enter Tryz.func84, Tryz.ntmps84
  go_wp2_with fail
  refine (HL.out _).mono ?_
  rintro e w3 ⟨rfl, hb3⟩
  rw [HWA.out] at hb3
  have B3 := Lib.hid (HBA.out.trans (hb3.mono HBA.out.size))
  clear hb3
  go_wp2
  go_ret2
  exact ⟨rfl, B3.out⟩
set_option maxRecDepth 100000 in
set_option maxHeartbeats 4000000 in
theorem dbytes_4 (n : Int) (s : List UInt8) (l : List (List UInt8)) (cl : List CellP) (fl : List FactP) (ml : List (List UInt8)) (A1 A2 A3 A4 : Option Addr) (n1 k1 n2 k2 n3 k3 n4 k4 : Nat) (w : World) (ht : ThingAt (fun k => k < w.heap.size) w ⟨4, n, s, l, cl, fl, ml⟩ (.slice A1 n1 k1) (.slice A2 n2 k2) (.slice A3 n3 k3) (.slice A4 n4 k4)) (hb : (bRow bText l).length ≤ 1152921504606846976) :
    Calls Tryz.prog 84 #[.agg #[.int .i64 4, .int .i64 n, sv s, .slice A1 n1 k1, .slice A2 n2 k2, .slice A3 n3 k3, .slice A4 n4 k4]] w (Told2 (bRow bText l) (true) w) := by
  obtain ⟨wa, hwa⟩ : ∃ wa, w.alloc (.cells #[.int .i64 4, .int .i64 n, sv s, .slice A1 n1 k1, .slice A2 n2 k2, .slice A3 n3 k3, .slice A4 n4 k4] 86) = wa := ⟨_, rfl⟩
  obtain ⟨gb, hgb⟩ : ∃ gb, w.heap.size = gb := ⟨_, rfl⟩
  have hbx : Blk wa gb 86 #[.int .i64 4, .int .i64 n, sv s, .slice A1 n1 k1, .slice A2 n2 k2, .slice A3 n3 k3, .slice A4 n4 k4] := by rw [← hwa, ← hgb]; exact Blk.new w 86 _
  have hba : Below w.heap.size w wa := by rw [← hwa]; exact (Below.refl _ _).alloc (Nat.le_refl _) _
  have hta := (ht.of fun k hk => hba.block k hk).mono fun k hk => Nat.lt_of_lt_of_le hk hba.size
  have HX := Lib.hid hbx
  have HBA := Lib.hid hba
  have HT := Lib.hid hta
  have HWA := Lib.hid hwa
  have HGB := Lib.hid hgb
  unfold Told2
  have HL := Lib.hid (dtexts_any _ l wa hta.l hb)
  unfold Told at HL
  generalize bRow bText l = T at *
  clear hwa hgb hbx hba hta ht
  go_enter Tryz.func84, Tryz.ntmps84
  go_wp2_with fail
  rw [HWA.out]
  refine HL.out.mono ?_
  rintro e w3 ⟨rfl, hb3⟩
  have B3 := Lib.hid (HBA.out.trans (hb3.mono HBA.out.size))
  clear hb3
  go_wp2
  go_ret2
  exact ⟨rfl, B3.out⟩
set_option maxRecDepth 100000 in
set_option maxHeartbeats 4000000 in
theorem dbytes_5 (n : Int) (s : List UInt8) (l : List (List UInt8)) (cl : List CellP) (fl : List FactP) (ml : List (List UInt8)) (A1 A2 A3 A4 : Option Addr) (n1 k1 n2 k2 n3 k3 n4 k4 : Nat) (w : World) (ht : ThingAt (fun k => k < w.heap.size) w ⟨5, n, s, l, cl, fl, ml⟩ (.slice A1 n1 k1) (.slice A2 n2 k2) (.slice A3 n3 k3) (.slice A4 n4 k4)) (hb : (bCell (one cl)).length ≤ 1152921504606846976) :
    Calls Tryz.prog 84 #[.agg #[.int .i64 5, .int .i64 n, sv s, .slice A1 n1 k1, .slice A2 n2 k2, .slice A3 n3 k3, .slice A4 n4 k4]] w (Told2 (bCell (one cl)) ((one cl).may) w) := by
  obtain ⟨wa, hwa⟩ : ∃ wa, w.alloc (.cells #[.int .i64 5, .int .i64 n, sv s, .slice A1 n1 k1, .slice A2 n2 k2, .slice A3 n3 k3, .slice A4 n4 k4] 86) = wa := ⟨_, rfl⟩
  obtain ⟨gb, hgb⟩ : ∃ gb, w.heap.size = gb := ⟨_, rfl⟩
  have hbx : Blk wa gb 86 #[.int .i64 5, .int .i64 n, sv s, .slice A1 n1 k1, .slice A2 n2 k2, .slice A3 n3 k3, .slice A4 n4 k4] := by rw [← hwa, ← hgb]; exact Blk.new w 86 _
  have hba : Below w.heap.size w wa := by rw [← hwa]; exact (Below.refl _ _).alloc (Nat.le_refl _) _
  have hta := (ht.of fun k hk => hba.block k hk).mono fun k hk => Nat.lt_of_lt_of_le hk hba.size
  have HX := Lib.hid hbx
  have HBA := Lib.hid hba
  have HT := Lib.hid hta
  have HWA := Lib.hid hwa
  have HGB := Lib.hid hgb
  unfold Told2
  have HC := Lib.hid (fun w => dcell_any (one cl) w fun h2 => by
    unfold bCell at hb
    rw [if_neg (by omega), if_pos h2, List.length_append] at hb
    unfold bText at hb
    rw [List.length_append] at hb
    omega)
  have HO := Lib.hid (one_any _ _ cl wa hta.c)
  unfold Told2 at HC
  clear hb
  unfold CellP.val at HC HO
  generalize ok2 (one cl).may (bCell (one cl)) = T at *
  generalize (one cl).may = m at *
  generalize (one cl).kind = ck at *
  generalize (one cl).int = ci at *
  generalize (one cl).text = ct at *
  clear hwa hgb hbx hba hta ht
  go_enter Tryz.func84, Tryz.ntmps84
  go_wp2_with fail
  rw [HWA.out]
  refine HO.out.mono ?_
  rintro e w3 ⟨rfl, hb3⟩
  have B3 := Lib.hid (HBA.out.trans (hb3.mono HBA.out.size))
  clear hb3
  go_wp2_with fail
  refine (HC.out _).mono ?_
  rintro e w4 ⟨rfl, hb4⟩
  have B4 := Lib.hid (B3.out.trans (hb4.mono B3.out.size))
  clear hb4
  go_wp2
  go_ret2
  exact ⟨rfl, B4.out⟩
set_option maxRecDepth 100000 in
set_option maxHeartbeats 4000000 in
theorem dbytes_7 (n : Int) (s : List UInt8) (l : List (List UInt8)) (cl : List CellP) (fl : List FactP) (ml : List (List UInt8)) (A1 A2 A3 A4 : Option Addr) (n1 k1 n2 k2 n3 k3 n4 k4 : Nat) (w : World) (ht : ThingAt (fun k => k < w.heap.size) w ⟨7, n, s, l, cl, fl, ml⟩ (.slice A1 n1 k1) (.slice A2 n2 k2) (.slice A3 n3 k3) (.slice A4 n4 k4)) (hb : (bFact (any fl)).length ≤ 1152921504606846976) :
    Calls Tryz.prog 84 #[.agg #[.int .i64 7, .int .i64 n, sv s, .slice A1 n1 k1, .slice A2 n2 k2, .slice A3 n3 k3, .slice A4 n4 k4]] w (Told2 (bFact (any fl)) (true) w) := by
  obtain ⟨wa, hwa⟩ : ∃ wa, w.alloc (.cells #[.int .i64 7, .int .i64 n, sv s, .slice A1 n1 k1, .slice A2 n2 k2, .slice A3 n3 k3, .slice A4 n4 k4] 86) = wa := ⟨_, rfl⟩
  obtain ⟨gb, hgb⟩ : ∃ gb, w.heap.size = gb := ⟨_, rfl⟩
  have hbx : Blk wa gb 86 #[.int .i64 7, .int .i64 n, sv s, .slice A1 n1 k1, .slice A2 n2 k2, .slice A3 n3 k3, .slice A4 n4 k4] := by rw [← hwa, ← hgb]; exact Blk.new w 86 _
  have hba : Below w.heap.size w wa := by rw [← hwa]; exact (Below.refl _ _).alloc (Nat.le_refl _) _
  have hta := (ht.of fun k hk => hba.block k hk).mono fun k hk => Nat.lt_of_lt_of_le hk hba.size
  have HX := Lib.hid hbx
  have HBA := Lib.hid hba
  have HT := Lib.hid hta
  have HWA := Lib.hid hwa
  have HGB := Lib.hid hgb
  unfold Told2
  have HO := Lib.hid (any_any _ _ fl wa hta.f)
  have HBF := Lib.hid hb
  obtain ⟨T, hT⟩ : ∃ T, bFact (any fl) = T := ⟨_, rfl⟩
  rw [hT]
  have HTT := Lib.hid hT
  clear hb hT
  clear hwa hgb hbx hba hta ht
  go_enter Tryz.func84, Tryz.ntmps84
  go_wp2_with fail
  rw [HWA.out]
  refine HO.out.mono ?_
  rintro e w3 ⟨dv, mv, rfl, rd, rm, hb3⟩
  have HL := Lib.hid (dfact_any dv mv (any fl) w3 ((rd.of (fun k hk => hb3.block k hk) fun _ _ h => h).mono fun k hk => Nat.lt_of_lt_of_le hk hb3.size) ((rm.of (fun k hk => hb3.block k hk) fun _ _ h => h).mono fun k hk => Nat.lt_of_lt_of_le hk hb3.size) HBF.out)
  have B3 := Lib.hid (HBA.out.trans (hb3.mono HBA.out.size))
  rw [HTT.out] at HL
  unfold Told at HL
  clear hb3 rd rm HO
  go_wp2_with fail
  refine HL.out.mono ?_
  rintro e w4 ⟨rfl, hb4⟩
  have B4 := Lib.hid (B3.out.trans (hb4.mono B3.out.size))
  clear hb4
  go_wp2
  go_ret2
  exact ⟨rfl, B4.out⟩
set_option maxRecDepth 100000 in
set_option maxHeartbeats 4000000 in
theorem dbytes_6 (n : Int) (s : List UInt8) (l : List (List UInt8)) (cl : List CellP) (fl : List FactP) (ml : List (List UInt8)) (A1 A2 A3 A4 : Option Addr) (n1 k1 n2 k2 n3 k3 n4 k4 : Nat) (w : World) (ht : ThingAt (fun k => k < w.heap.size) w ⟨6, n, s, l, cl, fl, ml⟩ (.slice A1 n1 k1) (.slice A2 n2 k2) (.slice A3 n3 k3) (.slice A4 n4 k4)) (hb : (bRow bCell cl).length ≤ 1152921504606846976) :
    Calls Tryz.prog 84 #[.agg #[.int .i64 6, .int .i64 n, sv s, .slice A1 n1 k1, .slice A2 n2 k2, .slice A3 n3 k3, .slice A4 n4 k4]] w (Told2 (bRow bCell cl) (cl.all CellP.may) w) := by
  obtain ⟨wa, hwa⟩ : ∃ wa, w.alloc (.cells #[.int .i64 6, .int .i64 n, sv s, .slice A1 n1 k1, .slice A2 n2 k2, .slice A3 n3 k3, .slice A4 n4 k4] 86) = wa := ⟨_, rfl⟩
  obtain ⟨gb, hgb⟩ : ∃ gb, w.heap.size = gb := ⟨_, rfl⟩
  have hbx : Blk wa gb 86 #[.int .i64 6, .int .i64 n, sv s, .slice A1 n1 k1, .slice A2 n2 k2, .slice A3 n3 k3, .slice A4 n4 k4] := by rw [← hwa, ← hgb]; exact Blk.new w 86 _
  have hba : Below w.heap.size w wa := by rw [← hwa]; exact (Below.refl _ _).alloc (Nat.le_refl _) _
  have hta := (ht.of fun k hk => hba.block k hk).mono fun k hk => Nat.lt_of_lt_of_le hk hba.size
  have HX := Lib.hid hbx
  have HBA := Lib.hid hba
  have HT := Lib.hid hta
  have HWA := Lib.hid hwa
  have HGB := Lib.hid hgb
  unfold Told2
  obtain ⟨bb, hbb⟩ : ∃ bb, cl.all CellP.may = bb := ⟨_, rfl⟩
  have HALL := Lib.hid hbb
  obtain ⟨n0, hn0, hm0⟩ : ∃ n0, cl.length = n0 ∧ n0 ≤ 9223372036854775807 := ⟨_, rfl, by have := hta.c.len_; obtain ⟨_, _, _, h⟩ := this; unfold maxLen at h; exact h⟩
  obtain rfl : n2 = n0 := by
    obtain ⟨A', c', e, _⟩ := hta.c.len_
    injection e with e1 e2 e3
    rw [e2]; exact hn0
  have HN := Lib.hid hn0
  have HC := Lib.hid (fun w => dcount_any n2 (by omega) w)
  unfold Told at HC
  have HFL := Lib.hid (row_bound bCell cl)
  have HBD := Lib.hid hb
  rw [hbb]
  clear hbb hn0 hb
  clear hwa hgb hbx hba hta ht
  go_enter Tryz.func84, Tryz.ntmps84
  go_wp2_with fail
  rw [HWA.out, HGB.out]
  refine (HC.out _).mono ?_
  rintro e w1 ⟨rfl, hb1⟩
  have B1 := Lib.hid (HBA.out.trans (hb1.mono HBA.out.size))
  have BA1 := Lib.hid hb1
  clear hb1
  have hx1 := HX.out.of (BA1.out.block gb HX.out.lt)
  have X1 := Lib.hid hx1
  clear hx1
  go_wp2
  go_loopw [4, 5] (fun x i wr => ∃ j : Nat, ∃ X, j ≤ n2 ∧ i = .int .i64 j ∧ x = sv X ∧ X = low n2 4 ++ (cl.take j).flatMap bCell ∧ (cl.take j).all CellP.may = true ∧ Below wa.heap.size wa wr) (fun _ i _ => n2 - (intOf i).toNat)
  case atStart => exact ⟨0, _, by omega, rfl, rfl, by simp, by simp, BA1.out⟩
  case round =>
    obtain ⟨j, X, hj, rfl, rfl, hX, hal, hbw⟩ := hrel
    have HXX := Lib.hid hX
    have HAL := Lib.hid hal
    have HBW := Lib.hid hbw
    have hblk := HX.out.of (hbw.block gb HX.out.lt)
    have d4 : wr.cell? ⟨gb, 4, none⟩ = some (.slice A2 n2 k2) := hblk.cell 4
    clear hX hal hbw hblk
    by_cases hlt : j < n2
    · have hjl : j < cl.length := by rw [HN.out]; exact hlt
      obtain ⟨g, off, cs, rfl, hg, ⟨rfl, _⟩, _, hc⟩ := RowE.at_ HN.out HT.out.c j hjl
      have hgw := HBW.out.block g hg
      have a0 : wr.cell? ⟨g, off + j * 3, none⟩ = some (.int .i64 cl[j].kind) := by simpa using hc wr hgw 0 (by omega)
      have a1 : wr.cell? ⟨g, off + j * 3 + 1, none⟩ = some (.int .i64 cl[j].int) := by simpa using hc wr hgw 1 (by omega)
      have a2 : wr.cell? ⟨g, off + j * 3 + 2, none⟩ = some (sv cl[j].text) := by simpa using hc wr hgw 2 (by omega)
      have h1 := flat_pre bCell cl j
      have h2 := flat_one bCell cl j hjl
      have h3 := HFL.out
      have h4 := HBD.out
      have hxl : X.length ≤ 1152921504606846980 := by rw [HXX.out, List.length_append, low_len]; omega
      have hcat : ∀ w0, (Op.stringOp .add ⟨X.toArray⟩ ⟨(bCell cl[j]).toArray⟩).run Tryz.prog w0 = .ok (.string ⟨(X ++ bCell cl[j]).toArray⟩) w0 := fun w0 => run_cat _ _ (by omega) w0
      have HD := dcell_any cl[j] wr fun e2 => by
        have h5 : (bCell cl[j]).length ≤ 1152921504606846976 := by omega
        unfold bCell at h5
        rw [if_neg (by omega), if_pos e2, List.length_append] at h5
        unfold bText at h5
        rw [List.length_append] at h5
        omega
      have HQ : Hid (X ++ bCell cl[j] = low n2 4 ++ (cl.take (j + 1)).flatMap bCell) := Lib.hid (by rw [flat_snoc bCell cl j hjl, HXX.out, List.append_assoc])
      have HA2 : Hid ((cl.take (j + 1)).all CellP.may = cl[j].may) := Lib.hid (by rw [List.take_succ_eq_append_getElem hjl, List.all_append, HAL.out]; simp)
      have HMEM : Hid (cl[j].may = false → bb = false) := Lib.hid fun hf => by
        rw [← HALL.out, List.all_eq_false]
        exact ⟨_, List.getElem_mem hjl, by rw [hf]; simp⟩
      unfold Told2 CellP.val at HD
      have hi0 : (0 : Int) ≤ (j : Int) := by omega
      have hi1 : (j : Int) < (n2 : Int) := by omega
      clear h1 h2 h3 h4 hxl hc hgw
      cases hm : cl[j].may with
      | false =>
        obtain rfl := HMEM.out hm
        rw [hm] at HD
        have HD := Lib.hid HD
        clear hm HQ HA2 HMEM hcat
        generalize ok2 false (bCell cl[j]) = Z at *
        generalize cl[j].kind = ck at *
        generalize cl[j].int = ci at *
        generalize cl[j].text = ct at *
        go_wp2_with fail
        refine HD.out.mono ?_
        rintro e w4 ⟨rfl, hb4⟩
        have B4 := Lib.hid (HBA.out.trans ((HBW.out.trans (hb4.mono HBW.out.size)).mono HBA.out.size))
        clear hb4
        go_wp2
        go_ret2
        exact ⟨rfl, B4.out⟩
      | true =>
        rw [hm] at HD HA2
        simp only [ok2, if_true] at HD
        have HD := Lib.hid HD
        clear hm HMEM
        generalize bCell cl[j] = Z at *
        generalize cl[j].kind = ck at *
        generalize cl[j].int = ci at *
        generalize cl[j].text = ct at *
        generalize X ++ Z = Y at *
        go_wp2_with fail
        refine HD.out.mono ?_
        rintro e w4 ⟨rfl, hb4⟩
        have B4 := Lib.hid (HBW.out.trans (hb4.mono HBW.out.size))
        clear hb4
        go_wp2
        go_roundw
        case rel => exact ⟨j + 1, Y, by omega, by go_num, rfl, HQ.out, HA2.out, B4.out⟩
        case measure => simp [intOf]; omega
    · obtain rfl : j = n2 := by omega
      have HBT : bb = true := by rw [← HALL.out, ← HAL.out, ← HN.out, List.take_length]
      subst HBT
      go_wp2
      go_ret2
      exact ⟨by rw [HXX.out, ← HN.out, List.take_length]; rfl, HBA.out.trans (HBW.out.mono HBA.out.size)⟩
set_option maxRecDepth 100000 in
set_option maxHeartbeats 4000000 in
theorem dbytes_8 (n : Int) (s : List UInt8) (l : List (List UInt8)) (cl : List CellP) (fl : List FactP) (ml : List (List UInt8)) (A1 A2 A3 A4 : Option Addr) (n1 k1 n2 k2 n3 k3 n4 k4 : Nat) (w : World) (ht : ThingAt (fun k => k < w.heap.size) w ⟨8, n, s, l, cl, fl, ml⟩ (.slice A1 n1 k1) (.slice A2 n2 k2) (.slice A3 n3 k3) (.slice A4 n4 k4)) (hb : (bRow bFact fl).length ≤ 1152921504606846976) :
    Calls Tryz.prog 84 #[.agg #[.int .i64 8, .int .i64 n, sv s, .slice A1 n1 k1, .slice A2 n2 k2, .slice A3 n3 k3, .slice A4 n4 k4]] w (Told2 (bRow bFact fl) (true) w) := by
  obtain ⟨wa, hwa⟩ : ∃ wa, w.alloc (.cells #[.int .i64 8, .int .i64 n, sv s, .slice A1 n1 k1, .slice A2 n2 k2, .slice A3 n3 k3, .slice A4 n4 k4] 86) = wa := ⟨_, rfl⟩
  obtain ⟨gb, hgb⟩ : ∃ gb, w.heap.size = gb := ⟨_, rfl⟩
  have hbx : Blk wa gb 86 #[.int .i64 8, .int .i64 n, sv s, .slice A1 n1 k1, .slice A2 n2 k2, .slice A3 n3 k3, .slice A4 n4 k4] := by rw [← hwa, ← hgb]; exact Blk.new w 86 _
  have hba : Below w.heap.size w wa := by rw [← hwa]; exact (Below.refl _ _).alloc (Nat.le_refl _) _
  have hta := (ht.of fun k hk => hba.block k hk).mono fun k hk => Nat.lt_of_lt_of_le hk hba.size
  have HX := Lib.hid hbx
  have HBA := Lib.hid hba
  have HT := Lib.hid hta
  have HWA := Lib.hid hwa
  have HGB := Lib.hid hgb
  unfold Told2
  obtain ⟨n0, hn0, hm0⟩ : ∃ n0, fl.length = n0 ∧ n0 ≤ 9223372036854775807 := ⟨_, rfl, by have := hta.f.len_; obtain ⟨_, _, _, h⟩ := this; unfold maxLen at h; exact h⟩
  obtain rfl : n3 = n0 := by
    obtain ⟨A', c', e, _⟩ := hta.f.len_
    injection e with e1 e2 e3
    rw [e2]; exact hn0
  have HN := Lib.hid hn0
  have HC := Lib.hid (fun w => dcount_any n3 (by omega) w)
  unfold Told at HC
  have HFL := Lib.hid (row_bound bFact fl)
  have HBD := Lib.hid hb
  clear hn0 hb
  clear hwa hgb hbx hba hta ht
  go_enter Tryz.func84, Tryz.ntmps84
  go_wp2_with fail
  rw [HWA.out, HGB.out]
  refine (HC.out _).mono ?_
  rintro e w1 ⟨rfl, hb1⟩
  have BA1 := Lib.hid hb1
  clear hb1
  have hx1 := HX.out.of (BA1.out.block gb HX.out.lt)
  have X1 := Lib.hid hx1
  clear hx1
  go_wp2
  go_loopw [8, 9] (fun x i wr => ∃ j : Nat, ∃ X, j ≤ n3 ∧ i = .int .i64 j ∧ x = sv X ∧ X = low n3 4 ++ (fl.take j).flatMap bFact ∧ Below wa.heap.size wa wr) (fun _ i _ => n3 - (intOf i).toNat)
  case atStart => exact ⟨0, _, by omega, rfl, rfl, by simp, BA1.out⟩
  case round =>
    obtain ⟨j, X, hj, rfl, rfl, hX, hbw⟩ := hrel
    have HXX := Lib.hid hX
    have HBW := Lib.hid hbw
    have hblk := HX.out.of (hbw.block gb HX.out.lt)
    have d4 : wr.cell? ⟨gb, 5, none⟩ = some (.slice A3 n3 k3) := hblk.cell 5
    clear hX hbw hblk
    by_cases hlt : j < n3
    · have hjl : j < fl.length := by rw [HN.out]; exact hlt
      obtain ⟨g, off, cs, rfl, hg, ⟨dv, mv, rfl, rd, rm⟩, _, hc⟩ := RowE.at_ HN.out HT.out.f j hjl
      have hgw := HBW.out.block g hg
      have rd' := (rd.of (fun k hk => HBW.out.block k hk) fun _ _ h => h).up HBW.out.size
      have rm' := (rm.of (fun k hk => HBW.out.block k hk) fun _ _ h => h).up HBW.out.size
      obtain ⟨U1, u1, v1, rfl⟩ := rd.slice
      obtain ⟨U2, u2, v2, rfl⟩ := rm.slice
      have a0 : wr.cell? ⟨g, off + j * 2, none⟩ = some (.slice U1 u1 v1) := by simpa using hc wr hgw 0 (by omega)
      have a1 : wr.cell? ⟨g, off + j * 2 + 1, none⟩ = some (.slice U2 u2 v2) := by simpa using hc wr hgw 1 (by omega)
      have h1 := flat_pre bFact fl j
      have h2 := flat_one bFact fl j hjl
      have h3 := HFL.out
      have h4 := HBD.out
      have hxl : X.length ≤ 1152921504606846980 := by rw [HXX.out, List.length_append, low_len]; omega
      have hcat : ∀ w0, (Op.stringOp .add ⟨X.toArray⟩ ⟨(bFact fl[j]).toArray⟩).run Tryz.prog w0 = .ok (.string ⟨(X ++ bFact fl[j]).toArray⟩) w0 := fun w0 => run_cat _ _ (by omega) w0
      have HD := Lib.hid (dfact_any _ _ fl[j] wr rd' rm' (by omega))
      have HQ : Hid (X ++ bFact fl[j] = low n3 4 ++ (fl.take (j + 1)).flatMap bFact) := Lib.hid (by rw [flat_snoc bFact fl j hjl, HXX.out, List.append_assoc])
      unfold Told at HD
      have hi0 : (0 : Int) ≤ (j : Int) := by omega
      have hi1 : (j : Int) < (n3 : Int) := by omega
      generalize bFact fl[j] = Z at *
      generalize X ++ Z = Y at *
      clear h1 h2 h3 h4 hxl hc hgw rd rm rd' rm'
      go_wp2_with fail
      refine HD.out.mono ?_
      rintro e w4 ⟨rfl, hb4⟩
      have B4 := Lib.hid (HBW.out.trans (hb4.mono HBW.out.size))
      clear hb4
      go_wp2
      go_roundw
      case rel => exact ⟨j + 1, Y, by omega, by go_num, rfl, HQ.out, B4.out⟩
      case measure => simp [intOf]; omega
    · obtain rfl : j = n3 := by omega
      go_wp2
      go_ret2
      exact ⟨by rw [HXX.out, ← HN.out, List.take_length]; rfl, HBA.out.trans (HBW.out.mono HBA.out.size)⟩
set_option maxRecDepth 100000 in
set_option maxHeartbeats 4000000 in
theorem dbytes_x (k n : Int) (s : List UInt8) (l : List (List UInt8)) (cl : List CellP) (fl : List FactP) (ml : List (List UInt8)) (A1 A2 A3 A4 : Option Addr) (n1 k1 n2 k2 n3 k3 n4 k4 : Nat) (w : World) (ht : ThingAt (fun k => k < w.heap.size) w ⟨k, n, s, l, cl, fl, ml⟩ (.slice A1 n1 k1) (.slice A2 n2 k2) (.slice A3 n3 k3) (.slice A4 n4 k4)) (hx : k < 0 ∨ 8 < k) (hb : (bRow bText l ++ bRow bText ml).length ≤ 1152921504606846976) :
    Calls Tryz.prog 84 #[.agg #[.int .i64 k, .int .i64 n, sv s, .slice A1 n1 k1, .slice A2 n2 k2, .slice A3 n3 k3, .slice A4 n4 k4]] w (Told2 (bRow bText l ++ bRow bText ml) (true) w) := by
  obtain ⟨wa, hwa⟩ : ∃ wa, w.alloc (.cells #[.int .i64 k, .int .i64 n, sv s, .slice A1 n1 k1, .slice A2 n2 k2, .slice A3 n3 k3, .slice A4 n4 k4] 86) = wa := ⟨_, rfl⟩
  obtain ⟨gb, hgb⟩ : ∃ gb, w.heap.size = gb := ⟨_, rfl⟩
  have hbx : Blk wa gb 86 #[.int .i64 k, .int .i64 n, sv s, .slice A1 n1 k1, .slice A2 n2 k2, .slice A3 n3 k3, .slice A4 n4 k4] := by rw [← hwa, ← hgb]; exact Blk.new w 86 _
  have hba : Below w.heap.size w wa := by rw [← hwa]; exact (Below.refl _ _).alloc (Nat.le_refl _) _
  have hta := (ht.of fun k hk => hba.block k hk).mono fun k hk => Nat.lt_of_lt_of_le hk hba.size
  have HX := Lib.hid hbx
  have HBA := Lib.hid hba
  have HT := Lib.hid hta
  have HWA := Lib.hid hwa
  have HGB := Lib.hid hgb
  unfold Told2
  have e00 : (k == 0) = false := by rw [beq_eq_false_iff_ne]; omega
  have e10 : (k == 1) = false := by rw [beq_eq_false_iff_ne]; omega
  have e20 : (k == 2) = false := by rw [beq_eq_false_iff_ne]; omega
  have e30 : (k == 3) = false := by rw [beq_eq_false_iff_ne]; omega
  have e40 : (k == 4) = false := by rw [beq_eq_false_iff_ne]; omega
  have e50 : (k == 5) = false := by rw [beq_eq_false_iff_ne]; omega
  have e60 : (k == 6) = false := by rw [beq_eq_false_iff_ne]; omega
  have e70 : (k == 7) = false := by rw [beq_eq_false_iff_ne]; omega
  have e80 : (k == 8) = false := by rw [beq_eq_false_iff_ne]; omega
  clear hx
  rw [List.length_append] at hb
  have K1 : Hid (∀ dd os, Calls Tryz.prog 143 #[.slice A1 n1 k1] (grow (redrawn wa dd) os) fun e w'' => e = .returned (sv (bRow bText l)) ∧ ∃ p : Regrown, w'' = grow (redrawn wa p.d) p.os) := Lib.hid fun dd os => Calls.regrown_of (dtexts_any _ _ _ ((hta.l.regrown (Nat.le_refl _) dd os).up (below_regrown wa dd os).size) (by omega))
  have K2 : Hid (∀ dd os, Calls Tryz.prog 143 #[.slice A4 n4 k4] (grow (redrawn wa dd) os) fun e w'' => e = .returned (sv (bRow bText ml)) ∧ ∃ p : Regrown, w'' = grow (redrawn wa p.d) p.os) := Lib.hid fun dd os => Calls.regrown_of (dtexts_any _ _ _ ((hta.m.regrown (Nat.le_refl _) dd os).up (below_regrown wa dd os).size) (by omega))
  have z3 : ∀ dd os, (grow (redrawn wa dd) os).cell? ⟨gb, 3, none⟩ = some (.slice A1 n1 k1) := fun dd os => cell_regrown (hbx.cell 3) dd os
  have z6 : ∀ dd os, (grow (redrawn wa dd) os).cell? ⟨gb, 6, none⟩ = some (.slice A4 n4 k4) := fun dd os => cell_regrown (hbx.cell 6) dd os
  have hcat : ∀ w0, (Op.stringOp .add ⟨(bRow bText l).toArray⟩ ⟨(bRow bText ml).toArray⟩).run Tryz.prog w0 = .ok (.string ⟨(bRow bText l ++ bRow bText ml).toArray⟩) w0 := fun w0 => run_cat _ _ (by omega) w0
  clear hb
  generalize bRow bText l ++ bRow bText ml = Y at *
  generalize bRow bText l = Y1 at *
  generalize bRow bText ml = Y2 at *
  clear hwa hgb hbx hba hta ht
  go_enter Tryz.func84, Tryz.ntmps84
  go_upto_region 35 with fail
  rw [HWA.out, HGB.out]
  refine wp_region_quiet_below mixed (by kernel_rfl) ?_
  repeat (first | go_big_quiet_step (first | (with_reducible exact K1.out _ _) | (with_reducible exact K2.out _ _)) | quiet_step (first | (with_reducible exact K1.out _ _) | (with_reducible exact K2.out _ _)))
  refine wpQuiet_nil ?_
  intro wx hp
  have hbw : Below wa.heap.size wa wx := by obtain ⟨p, rfl⟩ := hp; exact below_regrown _ _ _
  have BW := Lib.hid (HBA.out.trans (hbw.mono HBA.out.size))
  clear hbw hp
  go_wp2
  go_ret2
  exact ⟨rfl, BW.out⟩

theorem dbytes_any (t : ThingP) (lv cv fv mv : Value) (w : World) (ht : ThingAt (fun k => k < w.heap.size) w t lv cv fv mv) (hb : (bThing t).length ≤ 1152921504606846976) :
    Calls Tryz.prog 84 #[.agg (tcells t lv cv fv mv).toArray] w (Told2 (bThing t) (okB t) w) := by
  obtain ⟨A1, n1, k1, rfl⟩ := ht.l.slice
  obtain ⟨A2, n2, k2, rfl⟩ := ht.c.slice
  obtain ⟨A3, n3, k3, rfl⟩ := ht.f.slice
  obtain ⟨A4, n4, k4, rfl⟩ := ht.m.slice
  obtain ⟨k, n, s, l, cl, fl, ml⟩ := t
  have hb0 := hb
  unfold bThing at hb0 ⊢
  unfold okB
  simp only at hb0 ⊢
  by_cases h0 : k = 0
  · subst h0
    simp only [Int.reduceEq, if_true, if_false] at hb0 ⊢
    exact dbytes_0 n s l cl fl ml A1 A2 A3 A4 n1 k1 n2 k2 n3 k3 n4 k4 w ht
  by_cases h1 : k = 1
  · subst h1
    simp only [Int.reduceEq, if_true, if_false] at hb0 ⊢
    exact dbytes_1 n s l cl fl ml A1 A2 A3 A4 n1 k1 n2 k2 n3 k3 n4 k4 w ht
  by_cases h2 : k = 2
  · subst h2
    simp only [Int.reduceEq, if_true, if_false] at hb0 ⊢
    by_cases hx : 0 ≤ n ∧ n ≤ 4294967295
    · rw [decide_eq_true hx]
      exact dbytes_2 n s l cl fl ml A1 A2 A3 A4 n1 k1 n2 k2 n3 k3 n4 k4 w ht hx.1 hx.2
    · rw [decide_eq_false hx]
      exact dbytes_2n n s l cl fl ml A1 A2 A3 A4 n1 k1 n2 k2 n3 k3 n4 k4 w ht hx
  by_cases h3 : k = 3
  · subst h3
    simp only [Int.reduceEq, if_true, if_false] at hb0 ⊢
    exact dbytes_3 n s l cl fl ml A1 A2 A3 A4 n1 k1 n2 k2 n3 k3 n4 k4 w ht hb0
  by_cases h4 : k = 4
  · subst h4
    simp only [Int.reduceEq, if_true, if_false] at hb0 ⊢
    exact dbytes_4 n s l cl fl ml A1 A2 A3 A4 n1 k1 n2 k2 n3 k3 n4 k4 w ht hb0
  by_cases h5 : k = 5
  · subst h5
    simp only [Int.reduceEq, if_true, if_false] at hb0 ⊢
    exact dbytes_5 n s l cl fl ml A1 A2 A3 A4 n1 k1 n2 k2 n3 k3 n4 k4 w ht hb0
  by_cases h6 : k = 6
  · subst h6
    simp only [Int.reduceEq, if_true, if_false] at hb0 ⊢
    exact dbytes_6 n s l cl fl ml A1 A2 A3 A4 n1 k1 n2 k2 n3 k3 n4 k4 w ht hb0
  by_cases h7 : k = 7
  · subst h7
    simp only [Int.reduceEq, if_true, if_false] at hb0 ⊢
    exact dbytes_7 n s l cl fl ml A1 A2 A3 A4 n1 k1 n2 k2 n3 k3 n4 k4 w ht hb0
  by_cases h8 : k = 8
  · subst h8
    simp only [Int.reduceEq, if_true, if_false] at hb0 ⊢
    exact dbytes_8 n s l cl fl ml A1 A2 A3 A4 n1 k1 n2 k2 n3 k3 n4 k4 w ht hb0
  simp only [h0, h1, h2, h3, h4, h5, h6, h7, h8, if_false] at hb0 ⊢
  exact dbytes_x k n s l cl fl ml A1 A2 A3 A4 n1 k1 n2 k2 n3 k3 n4 k4 w ht (by omega) hb0
end Go.Proofs.YtikpojnmaiplnaaGreatDoor
/- The document's bytes of a checkpoint. -/
namespace Go.Proofs.YtikpojnmaiplnaaGreatDoor
open Go.RowKit Go.Maps Go.Sort
set_option linter.unusedVariables false

theorem refcount_any (n : Nat) (hn : n < 2 ^ 63) (w : World) : Calls Tryz.prog 40 #[.int .i64 (n : Int)] w (Told (low n 4) w) := by
  have HL := Lib.hid (Num_any n 4 w (by omega) (by omega))
  have hu : IntKind.u64.wrap (n : Int) = (n : Int) := by rw [IntKind.wrap_u64]; omega
  clear hn
  go_enter Tryz.func40, Tryz.ntmps40
  go_wp2_with (go_at_call 38; refine HL.out.mono ?_; rintro e w1 ⟨rfl, hb1⟩)
  go_ret
  exact ⟨rfl, hb1⟩
theorem thing_told (t : ThingP) (lv cv fv mv : Value) (w : World) (ht : ThingAt (fun k => k < w.heap.size) w t lv cv fv mv) (hb : (bThing t).length ≤ 1152921504606846976) (hok : okB t = true) :
    Calls Tryz.prog 39 #[.agg (tcells t lv cv fv mv).toArray] w (Told (bThing t) w) := by
  obtain ⟨A1, n1, k1, rfl⟩ := ht.l.slice
  obtain ⟨A2, n2, k2, rfl⟩ := ht.c.slice
  obtain ⟨A3, n3, k3, rfl⟩ := ht.f.slice
  obtain ⟨A4, n4, k4, rfl⟩ := ht.m.slice
  obtain ⟨wa, hwa⟩ : ∃ wa, w.alloc (.cells #[.int .i64 t.kind, .int .i64 t.n, sv t.s, .slice A1 n1 k1, .slice A2 n2 k2, .slice A3 n3 k3, .slice A4 n4 k4] 86) = wa := ⟨_, rfl⟩
  obtain ⟨gb, hgb⟩ : ∃ gb, w.heap.size = gb := ⟨_, rfl⟩
  have hbx : Blk wa gb 86 #[.int .i64 t.kind, .int .i64 t.n, sv t.s, .slice A1 n1 k1, .slice A2 n2 k2, .slice A3 n3 k3, .slice A4 n4 k4] := by rw [← hwa, ← hgb]; exact Blk.new w 86 _
  have hba : Below w.heap.size w wa := by rw [← hwa]; exact (Below.refl _ _).alloc (Nat.le_refl _) _
  have hta : ThingAt (fun k => k < wa.heap.size) wa t (.slice A1 n1 k1) (.slice A2 n2 k2) (.slice A3 n3 k3) (.slice A4 n4 k4) := (ht.of fun k hk => hba.block k hk).mono fun k hk => Nat.lt_of_lt_of_le hk hba.size
  have CD := dbytes_any t _ _ _ _ wa hta hb
  unfold Told2 ok2 at CD
  rw [if_pos hok, hok] at CD
  have x0 : wa.cell? ⟨gb, 0, none⟩ = some (.int .i64 t.kind) := hbx.cell 0
  have x1 : wa.cell? ⟨gb, 1, none⟩ = some (.int .i64 t.n) := hbx.cell 1
  have x2 : wa.cell? ⟨gb, 2, none⟩ = some (sv t.s) := hbx.cell 2
  have x3 : wa.cell? ⟨gb, 3, none⟩ = some (.slice A1 n1 k1) := hbx.cell 3
  have x4 : wa.cell? ⟨gb, 4, none⟩ = some (.slice A2 n2 k2) := hbx.cell 4
  have x5 : wa.cell? ⟨gb, 5, none⟩ = some (.slice A3 n3 k3) := hbx.cell 5
  have x6 : wa.cell? ⟨gb, 6, none⟩ = some (.slice A4 n4 k4) := hbx.cell 6
  have HCD := Lib.hid CD
  have HBA := Lib.hid hba
  have HWA := Lib.hid hwa
  have HGB := Lib.hid hgb
  generalize bThing t = B at *
  unfold tcells at HCD ⊢
  clear CD hbx hba hta hwa hgb ht hok hb
  go_enter Tryz.func39, Tryz.ntmps39
  go_wp2_with fail
  rw [HWA.out, HGB.out]
  go_wp2_with fail
  refine HCD.out.mono ?_
  rintro e w1 ⟨rfl, b1⟩
  have B1 := Lib.hid b1
  clear b1
  go_wp2
  go_ret
  exact ⟨rfl, HBA.out.trans (B1.out.mono HBA.out.size)⟩

/-! ### Bytes, plain -/
def rBody (c : CkP) : List UInt8 := (enc8 c.seq ++ (bRow bText c.dims ++ bRow bText c.meas) ++ low c.views.length 4 ++ c.views.flatMap enc8) ++ low c.bats.length 4
def rcat : List (List FactP) → List UInt8 → List UInt8 × Int
  | [], acc => (acc, 0)
  | b :: l, acc => if (bRow bFact b).length > 65536 then ([], 23) else rcat l (acc ++ frameR (bRow bFact b))
def rbytesP (c : CkP) : List UInt8 × Int :=
  if c.seq < 0 then ([], 1) else if (rBody c).length > 65536 then ([], 23) else rcat c.bats (frameR (rBody c))
/-- It is not too great. -/
structure CkB (c : CkP) : Prop where
  texts : (bRow bText c.dims ++ bRow bText c.meas).length ≤ 1099511627776
  views : c.views.length ≤ 1099511627776
  bats : c.bats.length ≤ 2000000000
  each : ∀ b ∈ c.bats, (bRow bFact b).length ≤ 1099511627776
theorem rcat_step {bats : List (List FactP)} {acc : List UInt8} {j : Nat} (hj : j < bats.length) : rcat (bats.drop j) acc = if (bRow bFact bats[j]).length > 65536 then ([], 23) else rcat (bats.drop (j + 1)) (acc ++ frameR (bRow bFact bats[j])) := by
  rw [List.drop_eq_getElem_cons hj]; rfl
end Go.Proofs.YtikpojnmaiplnaaGreatDoor
/- The document's bytes of a checkpoint, walked; whether two are the same. -/
namespace Go.Proofs.YtikpojnmaiplnaaGreatDoor
open Go.RowKit Go.Maps Go.Sort
set_option linter.unusedVariables false

theorem enc8_nat (q : Nat) (h : q < 18446744073709551616) : enc8 (q : Int) = low q 8 := by
  unfold enc8
  congr 1
  omega
theorem u64_of (n : Int) : IntKind.u64.wrap n = (((n % 18446744073709551616).toNat : Nat) : Int) := by rw [IntKind.wrap_u64]; omega
set_option maxRecDepth 100000 in
set_option maxHeartbeats 2000000 in
theorem refBytes_any (c : CkP) (dv mv vv bv : Value) (w : World) (h : CkAt (fun k => k < w.heap.size) w c dv mv vv bv) (hc : CkB c) :
    Calls Tryz.prog 12 #[ckv c dv mv vv bv] w fun e w' => e = .returned (.tuple #[sv (rbytesP c).1, .int .i64 (rbytesP c).2]) ∧ Fr No w w' := by
  obtain ⟨seq, dims, meas, views, bats⟩ := c
  obtain ⟨hcT, hcV, hcB, hcE⟩ := hc
  simp only at hcT hcV hcB hcE
  obtain ⟨A1, n1, k1, A2, n2, k2, A3, n3, k3, A4, n4, k4, rfl, rfl, rfl, rfl⟩ := h.forms
  obtain ⟨_, _, e3', hm3, _⟩ := h.views
  obtain ⟨_, _, e4', hm4, _⟩ := h.bats
  have en3 : n3 = views.length := by simpa using congrArg (fun v : Value => match v with | .slice _ n _ => n | _ => 0) e3'
  have en4 : n4 = bats.length := by simpa using congrArg (fun v : Value => match v with | .slice _ n _ => n | _ => 0) e4'
  obtain ⟨B, hB⟩ : ∃ B, w.heap.size = B := ⟨_, rfl⟩
  obtain ⟨wa, hwa⟩ : ∃ wa, w.alloc (.cells #[.int .i64 seq, .slice A1 n1 k1, .slice A2 n2 k2, .slice A3 n3 k3, .slice A4 n4 k4] 28) = wa := ⟨_, rfl⟩
  have hbx : Blk wa B 28 #[.int .i64 seq, .slice A1 n1 k1, .slice A2 n2 k2, .slice A3 n3 k3, .slice A4 n4 k4] := by rw [← hwa, ← hB]; exact Blk.new w 28 _
  have bw : Below B w wa := by rw [← hwa, ← hB]; exact (Below.refl _ _).alloc (Nat.le_refl _) _
  have hsa : wa.heap.size = B + 1 := by rw [← hwa, ← hB]; simp
  have hsq := h.seq
  unfold i64 at hsq
  simp only at hsq
  by_cases hs : seq < 0
  · have HV : Hid (rbytesP ⟨seq, dims, meas, views, bats⟩ = ([], 1)) := Lib.hid (by unfold rbytesP; rw [if_pos hs])
    have hlt : decide (seq < 0) = true := by simpa using hs
    have HBW := Lib.hid bw
    have HWA := Lib.hid hwa
    have HB := Lib.hid hB
    unfold ckv
    clear h hcT hcV hcB hcE e3' e4' hm3 hm4 en3 en4 hbx bw hsa hwa hB hsq
    go_enter Tryz.func12, Tryz.ntmps12
    go_wp2
    go_ret2
    exact ⟨by rw [HV.out]; rfl, by rw [HWA.out]; exact Fr.of_below (by rw [HB.out]; exact HBW.out)⟩
  obtain ⟨q, rfl⟩ : ∃ q : Nat, seq = (q : Int) := ⟨seq.toNat, by omega⟩
  have hlt : decide ((q : Int) < 0) = false := by simp
  have hu : IntKind.u64.wrap (q : Int) = (q : Int) := by rw [u64_of]; omega
  have HV : Hid (rbytesP ⟨(q : Int), dims, meas, views, bats⟩ = if (rBody ⟨(q : Int), dims, meas, views, bats⟩).length > 65536 then ([], 23) else rcat bats (frameR (rBody ⟨(q : Int), dims, meas, views, bats⟩))) := Lib.hid (by unfold rbytesP; rw [if_neg hs])
  have hcka : CkAt (fun k => k < B) wa ⟨(q : Int), dims, meas, views, bats⟩ (.slice A1 n1 k1) (.slice A2 n2 k2) (.slice A3 n3 k3) (.slice A4 n4 k4) := by rw [← hB]; exact h.of fun k hk => bw.block k (by omega)
  -- in any later world
  have hx : ∀ {w1 : World}, Below wa.heap.size wa w1 → Blk w1 B 28 #[.int .i64 (q : Int), .slice A1 n1 k1, .slice A2 n2 k2, .slice A3 n3 k3, .slice A4 n4 k4] ∧ CkAt (fun k => k < B) w1 ⟨(q : Int), dims, meas, views, bats⟩ (.slice A1 n1 k1) (.slice A2 n2 k2) (.slice A3 n3 k3) (.slice A4 n4 k4) := fun {w1} hb => ⟨hbx.of (hb.block B hbx.lt), hcka.of fun k hk => hb.block k (by omega)⟩
  have hHX : ∀ (w1 : World), Below wa.heap.size wa w1 → Blk w1 B 28 #[.int .i64 (q : Int), .slice A1 n1 k1, .slice A2 n2 k2, .slice A3 n3 k3, .slice A4 n4 k4] ∧ CkAt (fun k => k < B) w1 ⟨(q : Int), dims, meas, views, bats⟩ (.slice A1 n1 k1) (.slice A2 n2 k2) (.slice A3 n3 k3) (.slice A4 n4 k4) := fun w1 hb => hx hb
  have HX := Lib.hid hHX
  -- the three calls of the first region
  have K1 : Hid (∀ dd os, Calls Tryz.prog 38 #[.int .u64 (q : Int), .int .i64 8] (grow (redrawn wa dd) os) fun e w'' => e = .returned (sv (low q 8)) ∧ ∃ p : Regrown, w'' = grow (redrawn wa p.d) p.os) := Lib.hid fun dd os => Calls.regrown_of (Num_any q 8 _ (by omega) (by omega))
  have K2 : Hid (∀ dd os, Calls Tryz.prog 39 #[.agg #[.int .i64 9, .int .i64 0, sv [], .slice A1 n1 k1, .slice none 0 0, .slice none 0 0, .slice A2 n2 k2]] (grow (redrawn wa dd) os) fun e w'' => e = .returned (sv (bRow bText dims ++ bRow bText meas)) ∧ ∃ p : Regrown, w'' = grow (redrawn wa p.d) p.os) := Lib.hid fun dd os => by
    have hbb := below_regrown wa dd os
    have hth : ThingAt (fun k => k < (grow (redrawn wa dd) os).heap.size) (grow (redrawn wa dd) os) ⟨9, 0, [], dims, [], [], meas⟩ (.slice A1 n1 k1) (.slice none 0 0) (.slice none 0 0) (.slice A2 n2 k2) := by
      have hk := hx hbb
      have hs2 := hbb.size
      exact ⟨by unfold i64; simp, by unfold i64; simp, by simp [maxLen], hk.2.dims.mono fun k hk => by omega, RowE.nil _ _ _ _ _, RowE.nil _ _ _ _ _, hk.2.meas.mono fun k hk => by omega⟩
    have e9 : bThing ⟨9, 0, [], dims, [], [], meas⟩ = bRow bText dims ++ bRow bText meas := by unfold bThing; simp
    have := thing_told ⟨9, 0, [], dims, [], [], meas⟩ _ _ _ _ _ hth (by rw [e9]; omega) (by unfold okB; simp)
    rw [e9] at this
    exact Calls.regrown_of this
  have K3 : Hid (∀ dd os, Calls Tryz.prog 40 #[.int .i64 (n3 : Int)] (grow (redrawn wa dd) os) fun e w'' => e = .returned (sv (low n3 4)) ∧ ∃ p : Regrown, w'' = grow (redrawn wa p.d) p.os) := Lib.hid fun dd os => Calls.regrown_of (refcount_any n3 (by omega) _)
  have z0 : ∀ dd os, (grow (redrawn wa dd) os).cell? ⟨B, 0, none⟩ = some (.int .i64 (q : Int)) := fun dd os => cell_regrown (hbx.cell 0) dd os
  have z1 : ∀ dd os, (grow (redrawn wa dd) os).cell? ⟨B, 1, none⟩ = some (.slice A1 n1 k1) := fun dd os => cell_regrown (hbx.cell 1) dd os
  have z2 : ∀ dd os, (grow (redrawn wa dd) os).cell? ⟨B, 2, none⟩ = some (.slice A2 n2 k2) := fun dd os => cell_regrown (hbx.cell 2) dd os
  have z3 : ∀ dd os, (grow (redrawn wa dd) os).cell? ⟨B, 3, none⟩ = some (.slice A3 n3 k3) := fun dd os => cell_regrown (hbx.cell 3) dd os
  have x0 : wa.cell? ⟨B, 0, none⟩ = some (.int .i64 (q : Int)) := hbx.cell 0
  obtain ⟨E0, hE0⟩ : ∃ E0, low q 8 = E0 := ⟨_, rfl⟩
  obtain ⟨TT, hTT⟩ : ∃ TT, bRow bText dims ++ bRow bText meas = TT := ⟨_, rfl⟩
  obtain ⟨C0, hC0⟩ : ∃ C0, low n3 4 = C0 := ⟨_, rfl⟩
  obtain ⟨Y1, hY1⟩ : ∃ Y1, E0 ++ TT = Y1 := ⟨_, rfl⟩
  obtain ⟨Y2, hY2⟩ : ∃ Y2, Y1 ++ C0 = Y2 := ⟨_, rfl⟩
  have hle : E0.length = 8 := by rw [← hE0, low_len]
  have hlc : C0.length = 4 := by rw [← hC0, low_len]
  have hlt2 : TT.length ≤ 1099511627776 := by rw [← hTT]; exact hcT
  have hl1 : Y1.length ≤ 1099511627784 := by rw [← hY1, List.length_append]; omega
  have hl2 : Y2.length ≤ 1099511627788 := by rw [← hY2, List.length_append]; omega
  rw [hE0] at K1
  rw [hTT] at K2
  rw [hC0] at K3
  have hcat1 : ∀ w0, (Op.stringOp .add ⟨E0.toArray⟩ ⟨TT.toArray⟩).run Tryz.prog w0 = .ok (.string ⟨Y1.toArray⟩) w0 := fun w0 => by rw [run_cat _ _ (by omega), hY1]
  have hcat2 : ∀ w0, (Op.stringOp .add ⟨Y1.toArray⟩ ⟨C0.toArray⟩).run Tryz.prog w0 = .ok (.string ⟨Y2.toArray⟩) w0 := fun w0 => by rw [run_cat _ _ (by omega), hY2]
  have HBD : Hid (rBody ⟨(q : Int), dims, meas, views, bats⟩ = (Y2 ++ views.flatMap enc8) ++ low n4 4) := Lib.hid (by
    unfold rBody
    simp only
    rw [enc8_nat q (by omega), hE0, hTT, hY1, ← en3, hC0, hY2, en4])
  have HL2 := Lib.hid hl2
  have HBW := Lib.hid bw
  have HWA := Lib.hid hwa
  have HSA := Lib.hid hsa
  have HB := Lib.hid hB
  have HN3 := Lib.hid en3
  have HN4 := Lib.hid en4
  have HCE := Lib.hid hcE
  have hb3 : n3 ≤ 1099511627776 := by omega
  have hb4 : n4 ≤ 2000000000 := by omega
  generalize rBody ⟨(q : Int), dims, meas, views, bats⟩ = RB at *
  unfold ckv
  clear h hcT hcV hcB hcE e3' e4' hm3 hm4 en3 en4 hbx bw hsa hwa hB hsq hcka hx hHX hE0 hTT hC0 hY1 hY2 hle hlc hlt2 hl1 hl2 hs
  go_enter Tryz.func12, Tryz.ntmps12
  go_upto_region 3 with fail
  rw [HWA.out, HB.out]
  clear x0
  go_cut [4] (fun x wx => x = sv Y2 ∧ Below wa.heap.size wa wx)
  case first =>
    refine wp_region_quiet_below mixed (by kernel_rfl) ?_
    repeat (first | go_big_quiet_step (first | (with_reducible exact K1.out _ _) | (with_reducible exact K2.out _ _) | (with_reducible exact K3.out _ _)) | quiet_step (first | (with_reducible exact K1.out _ _) | (with_reducible exact K2.out _ _) | (with_reducible exact K3.out _ _)))
    refine wpQuiet_nil ?_
    intro wx hp
    have hbw : Below wa.heap.size wa wx := by obtain ⟨p, rfl⟩ := hp; exact below_regrown _ _ _
    go_wp2_with fail
    go_meet
    exact ⟨rfl, hbw⟩
  case rest =>
    obtain ⟨rfl, hbw⟩ := hcut
    have HBW0 := Lib.hid hbw
    have x3 := fun (w1 : World) (hb : Below wa.heap.size wa w1) => ((HX.out w1 hb).1.cell 3 : w1.cell? ⟨B, 3, none⟩ = some (.slice A3 n3 k3))
    have x4 := fun (w1 : World) (hb : Below wa.heap.size wa w1) => ((HX.out w1 hb).1.cell 4 : w1.cell? ⟨B, 4, none⟩ = some (.slice A4 n4 k4))
    have HX3 := Lib.hid x3
    have HX4 := Lib.hid x4
    clear hbw x3 x4 z0 z1 z2 z3 hcat1 hcat2 K1 K2 K3
    go_wp2
    go_loopw [4, 5] (fun b i wr => ∃ (j : Nat) (Acc : List UInt8), j ≤ n3 ∧ i = .int .i64 j ∧ b = sv Acc ∧ Acc.length = Y2.length + 8 * j ∧ Acc = Y2 ++ (views.take j).flatMap enc8 ∧ Below wa.heap.size wa wr) (fun _ i _ => n3 - (intOf i).toNat)
    case atStart => exact ⟨0, Y2, by omega, rfl, rfl, by omega, by simp, HBW0.out⟩
    case round =>
      obtain ⟨j, Acc, hj, rfl, rfl, hal, hacc, hbw⟩ := hrel
      have x3 := HX3.out wr hbw
      have hl2 := HL2.out
      have hal2 : Acc.length ≤ 9895604649996 := by omega
      by_cases hlt3 : j < n3
      · have hjl : j < views.length := by have := HN3.out; omega
        have hdec : decide ((j : Int) < (n3 : Int)) = true := by simpa using hlt3
        obtain ⟨A', c', e', _, hel⟩ := (HX.out wr hbw).2.views
        injection e' with ea eb ec
        subst ea
        obtain ⟨g, off, rfl, hg, hcell⟩ := hel (by omega)
        obtain ⟨cs, _, hcs2, rfl, hmx⟩ := hcell j hjl
        have hc : _ = some (Value.int .i64 views[j]) := hcs2 0 (by omega)
        simp only [Nat.mul_one, Nat.add_zero] at hc
        have hsn : (views.take (j + 1)).flatMap enc8 = (views.take j).flatMap enc8 ++ enc8 views[j] := flat_snoc enc8 views j hjl
        have hu8 := u64_of views[j]
        have CN := Num_any (views[j] % 18446744073709551616).toNat 8 wr (by omega) (by omega)
        have he8 : (enc8 views[j]).length = 8 := by unfold enc8; rw [low_len]
        have hlw : low (views[j] % 18446744073709551616).toNat 8 = enc8 views[j] := rfl
        unfold Low at CN
        rw [hlw] at CN
        have HCN := Lib.hid CN
        obtain ⟨Z, hZ⟩ : ∃ Z, Acc ++ enc8 views[j] = Z := ⟨_, rfl⟩
        have hcat : ∀ w0, (Op.stringOp .add ⟨Acc.toArray⟩ ⟨(enc8 views[j]).toArray⟩).run Tryz.prog w0 = .ok (.string ⟨Z.toArray⟩) w0 := fun w0 => by rw [run_cat _ _ (by omega), hZ]
        have HZ : Hid (Z.length = Y2.length + 8 * (j + 1) ∧ Z = Y2 ++ (views.take (j + 1)).flatMap enc8) := Lib.hid ⟨by rw [← hZ, List.length_append]; omega, by rw [← hZ, hsn, hacc, List.append_assoc]⟩
        generalize enc8 views[j] = E8 at *
        generalize (views[j] % 18446744073709551616).toNat = nv at *
        have HBW2 := Lib.hid hbw
        clear hcell hcs2 hel eb ec hmx hsn he8 hlw CN hZ hacc hal hbw hl2
        go_wp2_with fail
        refine HCN.out.mono ?_
        rintro e w5 ⟨rfl, b5⟩
        have HB5 := Lib.hid (HBW2.out.trans (b5.mono HBW2.out.size))
        clear b5 HCN
        go_wp2
        go_roundw
        case rel => exact ⟨j + 1, Z, by omega, by go_num, rfl, HZ.out.1, HZ.out.2, HB5.out⟩
        case measure => simp [intOf]; omega
      · obtain rfl : j = n3 := by omega
        have hdec : decide ((j : Int) < (j : Int)) = false := by simp
        have x4 := HX4.out wr hbw
        have hRB : RB = Acc ++ low n4 4 := by
          have e2 : (views.take j).flatMap enc8 = views.flatMap enc8 := by rw [HN3.out, List.take_length]
          rw [HBD.out, hacc, e2]
        have CC := refcount_any n4 (by omega) wr
        unfold Told at CC
        have HCC := Lib.hid CC
        have hlc : (low n4 4).length = 4 := low_len _ _
        have hcat : ∀ w0, (Op.stringOp .add ⟨Acc.toArray⟩ ⟨(low n4 4).toArray⟩).run Tryz.prog w0 = .ok (.string ⟨RB.toArray⟩) w0 := fun w0 => by rw [run_cat _ _ (by omega), hRB]
        have hrl : RB.length ≤ maxLen := by rw [hRB, List.length_append]; unfold maxLen; omega
        have HFR := Lib.hid (fun w1 : World => rframe_any RB w1 hrl)
        have HBW2 := Lib.hid hbw
        have HRL := Lib.hid hrl
        generalize low n4 4 = L4 at *
        clear hacc hal hbw hl2 hRB CC hlc hrl
        go_wp2_with fail
        refine HCC.out.mono ?_
        rintro e w5 ⟨rfl, b5⟩
        have HB5 := Lib.hid (HBW2.out.trans (b5.mono HBW2.out.size))
        clear b5 HCC
        have CF := HFR.out w5
        unfold Framed at CF
        by_cases hbig : RB.length > 65536
        · rw [frameV_no (by omega)] at CF
          have HCF := Lib.hid CF
          have HE : Hid (rbytesP ⟨(q : Int), dims, meas, views, bats⟩ = ([], 23)) := Lib.hid (by rw [HV.out, if_pos hbig])
          clear CF hbig
          go_wp2_with fail
          refine HCF.out.mono ?_
          rintro e w6 ⟨rfl, b6⟩
          have HB6 := Lib.hid (HB5.out.trans (b6.mono HB5.out.size))
          clear b6
          go_wp2
          go_ret2
          exact ⟨by rw [HE.out]; rfl, Fr.of_below (by rw [HB.out]; exact HBW.out.trans (HB6.out.mono (by have := HSA.out; omega)))⟩
        · rw [frameV_ok (by omega)] at CF
          have hfl : (frameR RB).length ≤ 65544 := by rw [frameR_len]; omega
          have HE : Hid (rbytesP ⟨(q : Int), dims, meas, views, bats⟩ = rcat bats (frameR RB)) := Lib.hid (by rw [HV.out, if_neg hbig])
          generalize frameR RB = acc0 at *
          have HCF := Lib.hid CF
          have HFL := Lib.hid hfl
          clear CF hbig hfl
          go_wp2_with fail
          clear x3 hcat hdec
          refine HCF.out.mono ?_
          rintro e w6 ⟨rfl, b6⟩
          have HB6 := Lib.hid (HB5.out.trans (b6.mono HB5.out.size))
          clear b6 x4
          go_wp2
          go_loopw [6, 8] (fun o i wr => ∃ (k : Nat) (acc : List UInt8), k ≤ n4 ∧ i = .int .i64 k ∧ o = sv acc ∧ acc.length ≤ 65544 * (k + 1) ∧ rcat (bats.drop k) acc = rcat bats acc0 ∧ Below wa.heap.size wa wr) (fun _ i _ => n4 - (intOf i).toNat)
          case atStart => exact ⟨0, acc0, by omega, rfl, rfl, by have := HFL.out; omega, rfl, HB6.out⟩
          case round =>
            obtain ⟨k, acc, hk, rfl, rfl, hal, hcat, hbw⟩ := hrel
            have x4 := HX4.out wr hbw
            by_cases hlt4 : k < n4
            · have hkl : k < bats.length := by have := HN4.out; omega
              have hdec : decide ((k : Int) < (n4 : Int)) = true := by simpa using hlt4
              rw [rcat_step hkl] at hcat
              have hbe := HCE.out bats[k] (List.getElem_mem hkl)
              obtain ⟨A', c', e', _, hel⟩ := (HX.out wr hbw).2.bats
              injection e' with ea eb ec
              subst ea
              obtain ⟨g, off, rfl, hg, hcell⟩ := hel (by omega)
              obtain ⟨cs, _, hcs2, vb, rfl, hrow⟩ := hcell k hkl
              have hc : _ = some vb := hcs2 0 (by omega)
              simp only [Nat.mul_one, Nat.add_zero] at hc
              obtain ⟨Ab, nb, cb, rfl⟩ := hrow.slice
              have hbs : B ≤ wr.heap.size := by have := hbw.size; have := HSA.out; omega
              have hth : ThingAt (fun k => k < wr.heap.size) wr ⟨8, 0, [], [], [], bats[k], []⟩ (.slice none 0 0) (.slice none 0 0) (.slice Ab nb cb) (.slice none 0 0) :=
                ⟨by unfold i64; simp, by unfold i64; simp, by simp [maxLen], RowE.nil _ _ _ _ _, RowE.nil _ _ _ _ _, (hrow.mono fun k hk => by omega).imp fun _ _ h => h.mono fun k hk => by omega, RowE.nil _ _ _ _ _⟩
              have e8 : bThing ⟨8, 0, [], [], [], bats[k], []⟩ = bRow bFact bats[k] := by unfold bThing; simp
              have CT := thing_told ⟨8, 0, [], [], [], bats[k], []⟩ _ _ _ _ wr hth (by rw [e8]; omega) (by unfold okB; simp)
              rw [e8] at CT
              unfold Told tcells at CT
              simp only at CT
              have HCT := Lib.hid CT
              have HFR2 := Lib.hid (fun w1 : World => rframe_any (bRow bFact bats[k]) w1 (by unfold maxLen; omega))
              have HBW3 := Lib.hid hbw
              have HCAT := Lib.hid hcat
              have HAL := Lib.hid hal
              generalize bRow bFact bats[k] = BB at *
              clear hcell hcs2 hel eb ec hrow hth e8 CT hbs hbw hcat
              go_wp2_with fail
              refine HCT.out.mono ?_
              rintro e w7 ⟨rfl, b7⟩
              have HB7 := Lib.hid (HBW3.out.trans (b7.mono HBW3.out.size))
              clear b7 HCT
              have CF := HFR2.out w7
              unfold Framed at CF
              by_cases hbig : BB.length > 65536
              · rw [frameV_no (by omega)] at CF
                have HCF := Lib.hid CF
                have HE2 : Hid (rcat bats acc0 = ([], 23)) := Lib.hid (by rw [← HCAT.out, if_pos hbig])
                clear CF hbig
                go_wp2_with fail
                refine HCF.out.mono ?_
                rintro e w8 ⟨rfl, b8⟩
                have HB8 := Lib.hid (HB7.out.trans (b8.mono HB7.out.size))
                clear b8
                go_wp2
                go_ret2
                exact ⟨by rw [HE.out, HE2.out]; rfl, Fr.of_below (by rw [HB.out]; exact HBW.out.trans (HB8.out.mono (by have := HSA.out; omega)))⟩
              · rw [frameV_ok (by omega)] at CF
                have hfl : (frameR BB).length ≤ 65544 := by rw [frameR_len]; omega
                have HE2 : Hid (rcat (bats.drop (k + 1)) (acc ++ frameR BB) = rcat bats acc0) := Lib.hid (by rw [← HCAT.out, if_neg hbig])
                generalize frameR BB = FB0 at *
                obtain ⟨Z, hZ⟩ : ∃ Z, acc ++ FB0 = Z := ⟨_, rfl⟩
                have hcat2 : ∀ w0, (Op.stringOp .add ⟨acc.toArray⟩ ⟨FB0.toArray⟩).run Tryz.prog w0 = .ok (.string ⟨Z.toArray⟩) w0 := fun w0 => by rw [run_cat _ _ (by omega), hZ]
                have HZ : Hid (Z.length ≤ 65544 * (k + 1 + 1)) := Lib.hid (by rw [← hZ, List.length_append]; omega)
                rw [hZ] at HE2
                have HCF := Lib.hid CF
                clear CF hbig hfl hZ hal hbe
                go_wp2_with fail
                refine HCF.out.mono ?_
                rintro e w8 ⟨rfl, b8⟩
                have HB8 := Lib.hid (HB7.out.trans (b8.mono HB7.out.size))
                clear b8
                go_wp2
                go_roundw
                case rel => exact ⟨k + 1, Z, by omega, by go_num, rfl, HZ.out, HE2.out, HB8.out⟩
                case measure => simp [intOf]; omega
            · obtain rfl : k = n4 := by omega
              have hdec : decide ((k : Int) < (k : Int)) = false := by simp
              have HE2 : Hid (rcat bats acc0 = (acc, 0)) := Lib.hid (by rw [← hcat, HN4.out, List.drop_length]; rfl)
              have HBW3 := Lib.hid hbw
              clear hcat hbw hal
              go_wp2
              go_ret2
              exact ⟨by rw [HE.out, HE2.out]; rfl, Fr.of_below (by rw [HB.out]; exact HBW.out.trans (HBW3.out.mono (by have := HSA.out; omega)))⟩

def sameP (a b : CkP) : Bool := decide ((rbytesP a).1 = (rbytesP b).1 ∧ (rbytesP a).2 = (rbytesP b).2 ∧ (rbytesP a).2 = 0)
end Go.Proofs.YtikpojnmaiplnaaGreatDoor
/- Whether two checkpoints are the same; the law's own small one. -/
namespace Go.Proofs.YtikpojnmaiplnaaGreatDoor
open Go.RowKit Go.Maps Go.Sort
set_option linter.unusedVariables false

set_option maxRecDepth 100000 in
set_option maxHeartbeats 1000000 in
theorem same_any (a b : CkP) (d1 m1 v1 b1 d2 m2 v2 b2 : Value) (w : World) (ha : CkAt (fun k => k < w.heap.size) w a d1 m1 v1 b1) (hb : CkAt (fun k => k < w.heap.size) w b d2 m2 v2 b2) (ca : CkB a) (cb : CkB b) :
    Calls Tryz.prog 16 #[ckv a d1 m1 v1 b1, ckv b d2 m2 v2 b2] w fun e w' => e = .returned (.bool (sameP a b)) ∧ Fr No w w' := by
  obtain ⟨A1, n1, k1, A2, n2, k2, A3, n3, k3, A4, n4, k4, rfl, rfl, rfl, rfl⟩ := ha.forms
  obtain ⟨C1, i1, j1, C2, i2, j2, C3, i3, j3, C4, i4, j4, rfl, rfl, rfl, rfl⟩ := hb.forms
  obtain ⟨B, hB⟩ : ∃ B, w.heap.size = B := ⟨_, rfl⟩
  obtain ⟨w1, hw1⟩ : ∃ w1, w.alloc (.cells #[.int .i64 a.seq, .slice A1 n1 k1, .slice A2 n2 k2, .slice A3 n3 k3, .slice A4 n4 k4] 28) = w1 := ⟨_, rfl⟩
  obtain ⟨w2, hw2⟩ : ∃ w2, w1.alloc (.cells #[.int .i64 b.seq, .slice C1 i1 j1, .slice C2 i2 j2, .slice C3 i3 j3, .slice C4 i4 j4] 28) = w2 := ⟨_, rfl⟩
  have hs1 : w1.heap.size = B + 1 := by rw [← hw1, ← hB]; simp
  have f1 : Fr No w w1 := by rw [← hw1]; exact (Fr.refl _ w).alloc _
  have f2 : Fr No w1 w2 := by rw [← hw2]; exact (Fr.refl _ w1).alloc _
  have b1 : Blk w1 B 28 #[.int .i64 a.seq, .slice A1 n1 k1, .slice A2 n2 k2, .slice A3 n3 k3, .slice A4 n4 k4] := by rw [← hw1, ← hB]; exact Blk.new w 28 _
  have b2 : Blk w2 (B + 1) 28 #[.int .i64 b.seq, .slice C1 i1 j1, .slice C2 i2 j2, .slice C3 i3 j3, .slice C4 i4 j4] := by rw [← hw2, ← hs1]; exact Blk.new w1 28 _
  have b1' := b1.of (f2.block _ b1.lt id)
  have f12 : Fr No w w2 := f1.trans f2 fun _ _ h => h
  have ha2 : CkAt (fun k => k < w2.heap.size) w2 a (.slice A1 n1 k1) (.slice A2 n2 k2) (.slice A3 n3 k3) (.slice A4 n4 k4) := (ha.of fun k hk => f12.block k hk id).mono fun k hk => Nat.lt_of_lt_of_le hk f12.size
  have CA := refBytes_any a _ _ _ _ w2 ha2 ca
  have CBf : ∀ w3, Fr No w2 w3 → Calls Tryz.prog 12 #[ckv b (.slice C1 i1 j1) (.slice C2 i2 j2) (.slice C3 i3 j3) (.slice C4 i4 j4)] w3 fun e w' => e = .returned (.tuple #[sv (rbytesP b).1, .int .i64 (rbytesP b).2]) ∧ Fr No w3 w' := fun w3 f3 => by
    have f := f12.trans f3 fun _ _ h => h
    exact refBytes_any b _ _ _ _ w3 ((hb.of fun k hk => f.block k hk id).mono fun k hk => Nat.lt_of_lt_of_le hk f.size) cb
  have HS : Hid (sameP a b = decide ((rbytesP a).1 = (rbytesP b).1 ∧ (rbytesP a).2 = (rbytesP b).2 ∧ (rbytesP a).2 = 0)) := Lib.hid rfl
  generalize rbytesP a = ra at *
  generalize rbytesP b = rb at *
  obtain ⟨s, e1⟩ := ra
  obtain ⟨t, e2⟩ := rb
  simp only at CA CBf HS
  unfold ckv at CA CBf ⊢
  have HCA := Lib.hid CA
  have HCB := Lib.hid CBf
  have HB1 := Lib.hid b1'
  have HB2 := Lib.hid b2
  have HF12 := Lib.hid f12
  have HW1 := Lib.hid hw1
  have HW2 := Lib.hid hw2
  have HB := Lib.hid hB
  have x0 : w2.cell? ⟨B, 0, none⟩ = some (.int .i64 a.seq) := b1'.cell 0
  have x1 : w2.cell? ⟨B, 1, none⟩ = some (.slice A1 n1 k1) := b1'.cell 1
  have x2 : w2.cell? ⟨B, 2, none⟩ = some (.slice A2 n2 k2) := b1'.cell 2
  have x3 : w2.cell? ⟨B, 3, none⟩ = some (.slice A3 n3 k3) := b1'.cell 3
  have x4 : w2.cell? ⟨B, 4, none⟩ = some (.slice A4 n4 k4) := b1'.cell 4
  clear ha hb ca cb hB hw1 hw2 hs1 f1 f2 b1 b2 b1' f12 ha2 CA CBf
  go_enter Tryz.func16, Tryz.ntmps16
  go_wp2_with fail
  rw [HW1.out, HW2.out, HB.out]
  refine HCA.out.mono ?_
  rintro e w3 ⟨rfl, f3⟩
  have CX := Lib.hid (HCB.out w3 f3)
  have b23 := HB2.out.of (f3.block _ HB2.out.lt id)
  have y0 : w3.cell? ⟨B + 1, 0, none⟩ = some (.int .i64 b.seq) := b23.cell 0
  have y1 : w3.cell? ⟨B + 1, 1, none⟩ = some (.slice C1 i1 j1) := b23.cell 1
  have y2 : w3.cell? ⟨B + 1, 2, none⟩ = some (.slice C2 i2 j2) := b23.cell 2
  have y3 : w3.cell? ⟨B + 1, 3, none⟩ = some (.slice C3 i3 j3) := b23.cell 3
  have y4 : w3.cell? ⟨B + 1, 4, none⟩ = some (.slice C4 i4 j4) := b23.cell 4
  have F3 := Lib.hid (HF12.out.trans f3 fun _ _ h => h)
  clear f3 b23 x0 x1 x2 x3 x4
  go_wp2_with fail
  refine CX.out.mono ?_
  rintro e w4 ⟨rfl, f4⟩
  have F4 := Lib.hid (F3.out.trans f4 fun _ _ h => h)
  clear f4 y0 y1 y2 y3 y4
  by_cases h1 : s = t
  · have h1b : (s == t) = true := by simpa using h1
    by_cases h2 : e1 = e2
    · have h2b : (e1 == e2) = true := by simpa using h2
      by_cases h3 : e1 = 0
      · have h3b : (e1 == 0) = true := by simpa using h3
        have HE : Hid (sameP a b = true) := Lib.hid (by rw [HS.out, decide_eq_true]; exact ⟨h1, h2, h3⟩)
        clear h1 h2 h3
        go_wp2
        go_ret
        exact ⟨by rw [HE.out]; first | done | rfl, F4.out⟩
      · have h3b : (e1 == 0) = false := by simpa using h3
        have HE : Hid (sameP a b = false) := Lib.hid (by rw [HS.out, decide_eq_false]; exact fun h => h3 h.2.2)
        clear h1 h2 h3
        go_wp2
        go_ret
        exact ⟨by rw [HE.out]; first | done | rfl, F4.out⟩
    · have h2b : (e1 == e2) = false := by simpa using h2
      have HE : Hid (sameP a b = false) := Lib.hid (by rw [HS.out, decide_eq_false]; exact fun h => h2 h.2.1)
      clear h1 h2
      go_wp2
      go_ret
      exact ⟨by rw [HE.out]; first | done | rfl, F4.out⟩
  · have h1b : (s == t) = false := by simpa using h1
    have HE : Hid (sameP a b = false) := Lib.hid (by rw [HS.out, decide_eq_false]; exact fun h => h1 h.1)
    clear h1
    go_wp2
    go_ret
    exact ⟨by rw [HE.out]; first | done | rfl, F4.out⟩

/-! ### small -/
def smallP (n : Int) : CkP := ⟨n, [[97]], [[109]], [1], [[⟨[[120]], [5]⟩], []]⟩
theorem Blk.more {w : World} {g : Nat} {t : TypeId} {cs : Array Value} (h : Blk w g t cs) (o : Obj) : Blk (w.alloc o) g t cs := h.of (((Fr.refl No w).alloc o).block g h.lt id)
theorem Blk.at_ {w : World} {g B : Nat} (t : TypeId) (cs : Array Value) (h : w.heap.size = B) : Blk (w.alloc (.cells cs t)) B t cs := by rw [← h]; exact Blk.new w t cs
theorem rowOne {α : Type} {w : World} {K : Nat → Prop} {E : α → List Value → Prop} {g : Nat} {t : TypeId} {cs : Array Value} (size : Nat) (hs : cs.size = size) (hb : Blk w g t cs) (hk : K g) (x : α) (hx : E x cs.toList) : RowE K w size E (.slice (some ⟨g, 0, none⟩) 1 1) [x] := by
  refine ⟨_, _, rfl, by unfold maxLen; simp, fun _ => ⟨g, 0, rfl, hk, fun j hj => ?_⟩⟩
  obtain rfl : j = 0 := by simpa using hj
  refine ⟨cs.toList, by simpa using hs, fun i hi => ?_, hx⟩
  rw [Nat.zero_mul, Nat.add_zero, Nat.zero_add, hb.cell i]
  simp
set_option maxRecDepth 100000 in
set_option maxHeartbeats 1000000 in
theorem small_any (n : Int) (hn : i64 n) (w : World) : Calls Tryz.prog 33 #[.int .i64 n] w fun e w' => ∃ dv mv vv bv, e = .returned (ckv (smallP n) dv mv vv bv) ∧ Fr No w w' ∧ CkAt (fun k => w.heap.size ≤ k) w' (smallP n) dv mv vv bv := by
  obtain ⟨B, hB⟩ : ∃ B, w.heap.size = B := ⟨_, rfl⟩
  obtain ⟨w0, hw0⟩ : ∃ w0, w.alloc (.cells #[.int .i64 n, .slice (some ⟨B + 1, 0, none⟩) 1 1, .slice (some ⟨B + 2, 0, none⟩) 1 1, .slice (some ⟨B + 3, 0, none⟩) 1 1, .slice (some ⟨B + 7, 0, none⟩) 2 2] 28) = w0 := ⟨_, rfl⟩
  have hs0 : w0.heap.size = B + 1 := by rw [← hw0]; simp [hB]
  obtain ⟨w1, hw1⟩ : ∃ w1, w0.alloc (.cells #[sv [97]] 9) = w1 := ⟨_, rfl⟩
  have hs1 : w1.heap.size = B + 2 := by rw [← hw1]; simp [hs0]
  obtain ⟨w2, hw2⟩ : ∃ w2, w1.alloc (.cells #[sv [109]] 9) = w2 := ⟨_, rfl⟩
  have hs2 : w2.heap.size = B + 3 := by rw [← hw2]; simp [hs1]
  obtain ⟨w3, hw3⟩ : ∃ w3, w2.alloc (.cells #[.int .i64 1] 3) = w3 := ⟨_, rfl⟩
  have hs3 : w3.heap.size = B + 4 := by rw [← hw3]; simp [hs2]
  obtain ⟨w4, hw4⟩ : ∃ w4, w3.alloc (.cells #[sv [120]] 9) = w4 := ⟨_, rfl⟩
  have hs4 : w4.heap.size = B + 5 := by rw [← hw4]; simp [hs3]
  obtain ⟨w5, hw5⟩ : ∃ w5, w4.alloc (.cells #[.int .i64 5] 2) = w5 := ⟨_, rfl⟩
  have hs5 : w5.heap.size = B + 6 := by rw [← hw5]; simp [hs4]
  obtain ⟨w6, hw6⟩ : ∃ w6, w5.alloc (.cells #[.slice (some ⟨B + 4, 0, none⟩) 1 1, .slice (some ⟨B + 5, 0, none⟩) 1 1] 139) = w6 := ⟨_, rfl⟩
  have hs6 : w6.heap.size = B + 7 := by rw [← hw6]; simp [hs5]
  obtain ⟨w7, hw7⟩ : ∃ w7, w6.alloc (.cells #[.slice (some ⟨B + 6, 0, none⟩) 1 1, .slice none 0 0] 76) = w7 := ⟨_, rfl⟩
  have hs7 : w7.heap.size = B + 8 := by rw [← hw7]; simp [hs6]
  have b0 : Blk w7 B 28 #[.int .i64 n, .slice (some ⟨B + 1, 0, none⟩) 1 1, .slice (some ⟨B + 2, 0, none⟩) 1 1, .slice (some ⟨B + 3, 0, none⟩) 1 1, .slice (some ⟨B + 7, 0, none⟩) 2 2] := by rw [← hw7, ← hw6, ← hw5, ← hw4, ← hw3, ← hw2, ← hw1, ← hw0]; exact ((((((((Blk.at_ (g := 0) 28 #[.int .i64 n, .slice (some ⟨B + 1, 0, none⟩) 1 1, .slice (some ⟨B + 2, 0, none⟩) 1 1, .slice (some ⟨B + 3, 0, none⟩) 1 1, .slice (some ⟨B + 7, 0, none⟩) 2 2] hB).more _).more _).more _).more _).more _).more _).more _)
  have b1 : Blk w7 (B + 1) 9 #[sv [97]] := by rw [← hw7, ← hw6, ← hw5, ← hw4, ← hw3, ← hw2, ← hw1]; exact (((((((Blk.at_ (g := 0) 9 #[sv [97]] hs0).more _).more _).more _).more _).more _).more _)
  have b2 : Blk w7 (B + 2) 9 #[sv [109]] := by rw [← hw7, ← hw6, ← hw5, ← hw4, ← hw3, ← hw2]; exact ((((((Blk.at_ (g := 0) 9 #[sv [109]] hs1).more _).more _).more _).more _).more _)
  have b3 : Blk w7 (B + 3) 3 #[.int .i64 1] := by rw [← hw7, ← hw6, ← hw5, ← hw4, ← hw3]; exact (((((Blk.at_ (g := 0) 3 #[.int .i64 1] hs2).more _).more _).more _).more _)
  have b4 : Blk w7 (B + 4) 9 #[sv [120]] := by rw [← hw7, ← hw6, ← hw5, ← hw4]; exact ((((Blk.at_ (g := 0) 9 #[sv [120]] hs3).more _).more _).more _)
  have b5 : Blk w7 (B + 5) 2 #[.int .i64 5] := by rw [← hw7, ← hw6, ← hw5]; exact (((Blk.at_ (g := 0) 2 #[.int .i64 5] hs4).more _).more _)
  have b6 : Blk w7 (B + 6) 139 #[.slice (some ⟨B + 4, 0, none⟩) 1 1, .slice (some ⟨B + 5, 0, none⟩) 1 1] := by rw [← hw7, ← hw6]; exact ((Blk.at_ (g := 0) 139 #[.slice (some ⟨B + 4, 0, none⟩) 1 1, .slice (some ⟨B + 5, 0, none⟩) 1 1] hs5).more _)
  have b7 : Blk w7 (B + 7) 76 #[.slice (some ⟨B + 6, 0, none⟩) 1 1, .slice none 0 0] := by rw [← hw7]; exact (Blk.at_ (g := 0) 76 #[.slice (some ⟨B + 6, 0, none⟩) 1 1, .slice none 0 0] hs6)
  have hf : Fr No w w7 := by rw [← hw7, ← hw6, ← hw5, ← hw4, ← hw3, ← hw2, ← hw1, ← hw0]; exact ((((((((Fr.refl _ w).alloc _).alloc _).alloc _).alloc _).alloc _).alloc _).alloc _).alloc _
  have hck : CkAt (fun k => B ≤ k) w7 (smallP n) (.slice (some ⟨B + 1, 0, none⟩) 1 1) (.slice (some ⟨B + 2, 0, none⟩) 1 1) (.slice (some ⟨B + 3, 0, none⟩) 1 1) (.slice (some ⟨B + 7, 0, none⟩) 2 2) := by
    refine ⟨hn, rowOne 1 rfl b1 (by omega) _ ⟨rfl, by simp [maxLen]⟩, rowOne 1 rfl b2 (by omega) _ ⟨rfl, by simp [maxLen]⟩, rowOne 1 rfl b3 (by omega) _ ⟨rfl, by unfold i64; omega⟩, ?_⟩
    refine ⟨_, _, rfl, by unfold maxLen; simp [smallP], fun _ => ⟨B + 7, 0, rfl, by omega, fun j hj => ?_⟩⟩
    have hj2 : j < 2 := hj
    rcases (by omega : j = 0 ∨ j = 1) with rfl | rfl
    · refine ⟨[.slice (some ⟨B + 6, 0, none⟩) 1 1], rfl, fun i hi => ?_, _, rfl, rowOne 2 rfl b6 (by omega) _ ⟨_, _, rfl, rowOne 1 rfl b4 (by omega) _ ⟨rfl, by simp [maxLen]⟩, rowOne 1 rfl b5 (by omega) _ ⟨rfl, by unfold i64; omega⟩⟩⟩
      obtain rfl : i = 0 := by omega
      exact b7.cell 0
    · refine ⟨[.slice none 0 0], rfl, fun i hi => ?_, _, rfl, RowE.nil _ _ _ _ _⟩
      obtain rfl : i = 0 := by omega
      exact b7.cell 1
  have y0 : w7.cell? ⟨B, 0, none⟩ = some (.int .i64 n) := b0.cell 0
  have y1 : w7.cell? ⟨B, 1, none⟩ = some (.slice (some ⟨B + 1, 0, none⟩) 1 1) := b0.cell 1
  have y2 : w7.cell? ⟨B, 2, none⟩ = some (.slice (some ⟨B + 2, 0, none⟩) 1 1) := b0.cell 2
  have y3 : w7.cell? ⟨B, 3, none⟩ = some (.slice (some ⟨B + 3, 0, none⟩) 1 1) := b0.cell 3
  have y4 : w7.cell? ⟨B, 4, none⟩ = some (.slice (some ⟨B + 7, 0, none⟩) 2 2) := b0.cell 4
  have HW : Hid (((((((w.alloc (.cells #[.int .i64 n, .slice (some ⟨B + 1, 0, none⟩) 1 1, .slice (some ⟨B + 2, 0, none⟩) 1 1, .slice (some ⟨B + 3, 0, none⟩) 1 1, .slice (some ⟨B + 7, 0, none⟩) 2 2] 28)).alloc (.cells #[sv [97]] 9)).alloc (.cells #[sv [109]] 9)).alloc (.cells #[.int .i64 1] 3)).alloc (.cells #[sv [120]] 9)).alloc (.cells #[.int .i64 5] 2)).alloc (.cells #[.slice (some ⟨B + 4, 0, none⟩) 1 1, .slice (some ⟨B + 5, 0, none⟩) 1 1] 139) = w6) := Lib.hid (by rw [hw0, hw1, hw2, hw3, hw4, hw5, hw6])
  have HW7 := Lib.hid hw7
  have HF := Lib.hid hf
  have HCK := Lib.hid hck
  have HB := Lib.hid hB
  clear hw0 hw1 hw2 hw3 hw4 hw5 hw6 hw7 hs0 hs1 hs2 hs3 hs4 hs5 hs6 hs7 b0 b1 b2 b3 b4 b5 b6 b7 hf hck hB
  go_enter Tryz.func33, Tryz.ntmps33
  go_wp2
  rw [HB.out]
  simp only [Nat.add_assoc, Nat.reduceAdd]
  rw [HW.out, HW7.out]
  refine bodyPost_ret (v := ckv (smallP n) (.slice (some ⟨B + 1, 0, none⟩) 1 1) (.slice (some ⟨B + 2, 0, none⟩) 1 1) (.slice (some ⟨B + 3, 0, none⟩) 1 1) (.slice (some ⟨B + 7, 0, none⟩) 2 2)) (by simp [results, Tryz.results33, go_sem, ckv, smallP, y0, y1, y2, y3, y4]) rfl ?_
  exact ⟨_, _, _, _, rfl, HF.out, HCK.out⟩
end Go.Proofs.YtikpojnmaiplnaaGreatDoor
/- The law's own round of a small checkpoint, and Load of no disk. -/
namespace Go.Proofs.YtikpojnmaiplnaaGreatDoor
open Go.RowKit Go.Maps Go.Sort
set_option linter.unusedVariables false

def new0 : AS := AS.new 10000
theorem sk0 : sortedKeys new0.names = [] := by unfold sortedKeys; rw [show strKeys new0.names = [] from rfl]; simp
def steps0 : List Stp := [.write (fileW 1) (bytesP (smallP 2)).1, .sync (fileW 1), .settle, .mani (fileW 1), .syncF, .renameF, .settle]
theorem stepsW0 : stepsW new0 (fileW 1) (bytesP (smallP 2)).1 = steps0 := by
  unfold stepsW others; rw [sk0]; rfl
theorem saveW0 : saveW new0 (smallP 2) = runAll new0 steps0 := by
  unfold saveW
  rw [if_neg (show ¬ new0.on = false by decide)]
  rw [if_neg (show ¬ (bytesP (smallP 2)).2 ≠ 0 from fun h => h (by kernel_rfl))]
  rw [show validW new0 = (0, 0) by kernel_rfl]
  rw [if_neg (by decide)]
  exact congrArg _ stepsW0
theorem run0 : (runAll new0 steps0).2 = 0 := by kernel_rfl
theorem load0 : loadW (runAll new0 steps0).1 = (smallP 2, true, 0) := by kernel_rfl
theorem loadE : loadW new0 = (CkP.zero, false, 0) := by kernel_rfl
theorem same0 : sameP (smallP 2) (smallP 2) = true := by unfold sameP; rw [decide_eq_true]; exact ⟨rfl, rfl, by kernel_rfl⟩
theorem file0 : fileW 1 = [99, 97, 116, 45, 48, 48, 48, 48, 48, 48, 48, 49] := by kernel_rfl
theorem ckb0 : CkB (smallP 2) := by
  refine ⟨?_, ?_, ?_, ?_⟩
  · have h : (bRow bText (smallP 2).dims ++ bRow bText (smallP 2).meas).length = 18 := by kernel_rfl
    omega
  · simp [smallP]
  · simp [smallP]
  · intro b hb
    simp only [smallP, List.mem_cons, List.not_mem_nil, or_false] at hb
    rcases hb with rfl | rfl
    · have h : (bRow bFact [⟨[[120]], [5]⟩]).length ≤ 1099511627776 := by
        have h2 : (bRow bFact [⟨[[120]], [5]⟩]).length = (bRow bFact [⟨[[120]], [5]⟩]).length := rfl
        have h3 : ((bRow bFact [⟨[[120]], [5]⟩]).length ≤ 1099511627776) = True := by
          have : decide ((bRow bFact [⟨[[120]], [5]⟩]).length ≤ 1099511627776) = true := by kernel_rfl
          simpa using this
        rw [h3]; trivial
      exact h
    · have : decide ((bRow bFact []).length ≤ 1099511627776) = true := by kernel_rfl
      simpa using this

set_option maxRecDepth 100000 in
set_option maxHeartbeats 1000000 in
/-- Load of no disk. -/
theorem load_nil (w : World) : Calls Tryz.prog 29 #[.pointer none] w (LdP w (CkP.zero, false, 1)) := by
  obtain ⟨gr, hgr⟩ : ∃ gr, w.heap.size = gr := ⟨_, rfl⟩
  obtain ⟨wa, hwa⟩ : ∃ wa, w.alloc (.cells #[.int .i64 0, .slice none 0 0, .slice none 0 0, .slice none 0 0, .slice none 0 0] 28) = wa := ⟨_, rfl⟩
  have hsa : wa.heap.size = gr + 1 := by rw [← hwa, ← hgr]; simp
  have hbr0 : Blk wa gr 28 zero5 := by rw [← hwa, ← hgr]; exact Blk.new w 28 _
  have hf0 : Fr No w wa := by rw [← hwa]; exact (Fr.refl _ w).alloc _
  have C1 := Lib.hid (valid_nil wa)
  have HBR := Lib.hid hbr0
  have HF0 := Lib.hid hf0
  have HSA := Lib.hid hsa
  have HWA := Lib.hid hwa
  have HGR := Lib.hid hgr
  clear hgr hwa hsa hbr0 hf0
  go_enter Tryz.func29, Tryz.ntmps29
  go_wp2_with fail
  rw [HWA.out]
  refine C1.out.mono ?_
  rintro e w1 ⟨rfl, f1⟩
  have HF1 := Lib.hid (HF0.out.trans f1 fun _ _ h => h)
  have b1 := HBR.out.of (f1.block _ HBR.out.lt id)
  have x0 : w1.cell? ⟨gr, 0, none⟩ = some (.int .i64 0) := b1.cell 0
  have x1 : w1.cell? ⟨gr, 1, none⟩ = some (.slice none 0 0) := b1.cell 1
  have x2 : w1.cell? ⟨gr, 2, none⟩ = some (.slice none 0 0) := b1.cell 2
  have x3 : w1.cell? ⟨gr, 3, none⟩ = some (.slice none 0 0) := b1.cell 3
  have x4 : w1.cell? ⟨gr, 4, none⟩ = some (.slice none 0 0) := b1.cell 4
  have y0 := b1.frozen 0
  have y1 := b1.frozen 1
  have y2 := b1.frozen 2
  have y3 := b1.frozen 3
  have y4 := b1.frozen 4
  have HB1 := Lib.hid b1
  clear f1 b1
  rw [HGR.out]
  go_wp2
  refine bodyPost_ret (v := .tuple #[.agg #[.int .i64 0, .slice none 0 0, .slice none 0 0, .slice none 0 0, .slice none 0 0], .bool false, .int .i64 1]) (by simp [results, Tryz.results29, go_sem, x0, x1, x2, x3, x4]) rfl ?_
  exact ld_fin HGR.out (c := CkP.zero) HF1.out (CkAt.nil _ _ _ _ _ _ _ (by unfold i64 CkP.zero; simp) rfl rfl rfl rfl) HB1.out.lt _ _ _ _ _ _ _
theorem CkAt.bound {K : Nat → Prop} {w : World} {c : CkP} {dv mv vv bv : Value} (h : CkAt K w c dv mv vv bv) : CkAt (fun k => k < w.heap.size) w c dv mv vv bv := by
  have q : CkAt (fun k => K k ∧ k < w.heap.size) w c dv mv vv bv :=
    ⟨h.seq, h.dims.bound (by omega), h.meas.bound (by omega), h.views.bound (by omega),
      (h.bats.bound (by omega)).imp fun b cs hb => batG_elem.mono K (fun k => K k ∧ k < w.heap.size) w w b cs hb fun k hk hlt => ⟨⟨hk, hlt⟩, rfl⟩⟩
  exact q.mono fun k hk => hk.2
end Go.Proofs.YtikpojnmaiplnaaGreatDoor
/- The law's own round of a small checkpoint: awake. -/
namespace Go.Proofs.YtikpojnmaiplnaaGreatDoor
open Go.RowKit Go.Maps Go.Sort
set_option linter.unusedVariables false

/-- Old blocks below a bound stay: of a frame over what is not below it. -/
theorem Fr.low {B : Nat} {w w' : World} (h : Fr (fun k => ¬ k < B) w w') (hB : w.heap.size ≤ B) : Fr No w w' := h.mono fun k hk hn => hn (by omega)
set_option maxRecDepth 100000 in
set_option maxHeartbeats 2000000 in
theorem awake_any (w : World) (hv : Vr w) : Calls Tryz.prog 10 #[] w fun e w' => e = .returned (.bool true) ∧ Fr No w w' := by
  obtain ⟨B, hB⟩ : ∃ B, w.heap.size = B := ⟨_, rfl⟩
  have C0 := Lib.hid (x_new 10000 w (fun k => k < B) (fun k hk => by omega))
  have HB := Lib.hid hB
  have HV := Lib.hid hv
  clear hB hv
  go_enter Tryz.func10, Tryz.ntmps10
  go_wp2_with fail
  refine C0.out.mono ?_
  clear C0
  rintro e w1 ⟨d, rfl, h1, f1⟩
  have D1 := Lib.hid h1
  have F1 := Lib.hid f1
  have V1 := Lib.hid (HV.out.keep f1)
  clear h1 f1
  have CL1 := Lib.hid (load_ck_any D1.out V1.out)
  go_wp2_with fail
  refine CL1.out.mono ?_
  clear CL1
  rintro e w2 ⟨dv, mv, vv, bv, rfl, f2, hck⟩
  rw [show AS.new 10000 = new0 from rfl, loadE] at hck
  rw [show AS.new 10000 = new0 from rfl, loadE]
  obtain ⟨A1, n1, c1, A2, n2, c2, A3, n3, c3, A4, n4, c4, rfl, rfl, rfl, rfl⟩ := hck.forms
  clear hck
  obtain ⟨w3, hw3⟩ : ∃ w3, w2.alloc (.cells #[.int .i64 0, .slice A1 n1 c1, .slice A2 n2 c2, .slice A3 n3 c3, .slice A4 n4 c4] 28) = w3 := ⟨_, rfl⟩
  have f3 : Fr No w2 w3 := by rw [← hw3]; exact (Fr.refl _ w2).alloc _
  have f13 := f2.trans f3 fun _ _ h => h
  have HW3 := Lib.hid hw3
  have D3 := Lib.hid (D1.out.keep f13)
  have V3 := Lib.hid (V1.out.keep f13)
  have F3 := Lib.hid (F1.out.trans f13 fun _ _ h => h)
  clear f2 f3 f13 hw3
  unfold ckv CkP.zero
  have CS := Lib.hid (small_any 2 (by unfold i64; omega) w3)
  go_wp2_with fail
  rw [HW3.out]
  refine CS.out.mono ?_
  clear CS
  rintro e w4 ⟨dv, mv, vv, bv, rfl, f4, hck⟩
  have D4 := D3.out.keep f4
  have V4 := Lib.hid (V3.out.keep f4)
  have F4 := Lib.hid (F3.out.trans f4 fun _ _ h => h)
  have CV := Lib.hid (save_any D4 (by omega) V4.out (fun k => k < w4.heap.size) _ _ _ _ _ hck.bound (fun _ h => h) (by simp [smallP]))
  rw [show AS.new 10000 = new0 from rfl, saveW0] at CV
  clear hck D4 f4
  go_wp2_with fail
  refine CV.out.mono ?_
  clear CV
  rintro e w5 ⟨rfl, h5, f5⟩
  rw [run0]
  have D5 := Lib.hid h5
  have hb3 : 3 ≤ B := by have := HV.out.lt; have := HB.out; omega
  have V5 := Lib.hid (V4.out.of fun k hk => f5.block k (by have := V4.out.lt; omega) (fun hn => hn (by omega)))
  have F5 := Lib.hid (F4.out.trans f5 fun j hj hn => hn (by have := HB.out; omega))
  clear f5 h5 hb3
  have CL2 := Lib.hid (load_ck_any D5.out V5.out)
  rw [load0] at CL2
  go_wp2_with fail
  refine CL2.out.mono ?_
  clear CL2
  rintro e w6 ⟨dv, mv, vv, bv, rfl, f6, hck⟩
  obtain ⟨A1, n1, c1, A2, n2, c2, A3, n3, c3, A4, n4, c4, rfl, rfl, rfl, rfl⟩ := hck.forms
  obtain ⟨w7, hw7⟩ : ∃ w7, w6.alloc (.cells #[.int .i64 2, .slice A1 n1 c1, .slice A2 n2 c2, .slice A3 n3 c3, .slice A4 n4 c4] 28) = w7 := ⟨_, rfl⟩
  obtain ⟨g, hg⟩ : ∃ g, w6.heap.size = g := ⟨_, rfl⟩
  have f7 : Fr No w6 w7 := by rw [← hw7]; exact (Fr.refl _ w6).alloc _
  have hck7 : CkAt (fun k => k < w7.heap.size) w7 (smallP 2) (.slice A1 n1 c1) (.slice A2 n2 c2) (.slice A3 n3 c3) (.slice A4 n4 c4) :=
    (hck.bound.of fun k hk => f7.block k hk id).mono fun k hk => Nat.lt_of_lt_of_le hk f7.size
  have b7 : Blk w7 g 28 #[.int .i64 2, .slice A1 n1 c1, .slice A2 n2 c2, .slice A3 n3 c3, .slice A4 n4 c4] := by rw [← hw7, ← hg]; exact Blk.new w6 28 _
  have x0 : w7.cell? ⟨g, 0, none⟩ = some (.int .i64 2) := b7.cell 0
  have x1 : w7.cell? ⟨g, 1, none⟩ = some (.slice A1 n1 c1) := b7.cell 1
  have x2 : w7.cell? ⟨g, 2, none⟩ = some (.slice A2 n2 c2) := b7.cell 2
  have x3 : w7.cell? ⟨g, 3, none⟩ = some (.slice A3 n3 c3) := b7.cell 3
  have x4 : w7.cell? ⟨g, 4, none⟩ = some (.slice A4 n4 c4) := b7.cell 4
  have f67 := f6.trans f7 fun _ _ h => h
  have V7 := Lib.hid (V5.out.keep f67)
  have F7 := Lib.hid (F5.out.trans f67 fun _ _ h => h)
  have HCK := Lib.hid hck7
  have HW7 := Lib.hid hw7
  have HG := Lib.hid hg
  have HB7 := Lib.hid b7
  have CS : Hid (∀ wx : World, Fr No w7 wx → Calls Tryz.prog 33 #[.int .i64 2] wx fun e w' => ∃ C1 i1 j1 C2 i2 j2 C3 i3 j3 C4 i4 j4, e = .returned (ckv (smallP 2) (.slice C1 i1 j1) (.slice C2 i2 j2) (.slice C3 i3 j3) (.slice C4 i4 j4)) ∧ Fr No w7 w' ∧ CkAt (fun k => k < w'.heap.size) w' (smallP 2) (.slice C1 i1 j1) (.slice C2 i2 j2) (.slice C3 i3 j3) (.slice C4 i4 j4) ∧ Blk w' g 28 #[.int .i64 2, .slice A1 n1 c1, .slice A2 n2 c2, .slice A3 n3 c3, .slice A4 n4 c4]) := Lib.hid fun wx hx =>
    (small_any 2 (by unfold i64; omega) wx).mono fun e w8 h => by
      obtain ⟨dv, mv, vv, bv, he, f8, hc⟩ := h
      obtain ⟨C1, i1, j1, C2, i2, j2, C3, i3, j3, C4, i4, j4, rfl, rfl, rfl, rfl⟩ := hc.forms
      have f := hx.trans f8 fun _ _ h => h
      exact ⟨C1, i1, j1, C2, i2, j2, C3, i3, j3, C4, i4, j4, he, f, hc.bound, b7.of (f.block _ b7.lt id)⟩
  have CM : Hid (∀ (wx : World) C1 i1 j1 C2 i2 j2 C3 i3 j3 C4 i4 j4, Fr No w7 wx → CkAt (fun k => k < wx.heap.size) wx (smallP 2) (.slice C1 i1 j1) (.slice C2 i2 j2) (.slice C3 i3 j3) (.slice C4 i4 j4) →
      Calls Tryz.prog 16 #[ckv (smallP 2) (.slice A1 n1 c1) (.slice A2 n2 c2) (.slice A3 n3 c3) (.slice A4 n4 c4), ckv (smallP 2) (.slice C1 i1 j1) (.slice C2 i2 j2) (.slice C3 i3 j3) (.slice C4 i4 j4)] wx fun e w' => e = .returned (.bool true) ∧ Fr No w7 w') := Lib.hid fun wx C1 i1 j1 C2 i2 j2 C3 i3 j3 C4 i4 j4 hx hc =>
    (same_any (smallP 2) (smallP 2) _ _ _ _ _ _ _ _ wx ((hck7.of fun k hk => hx.block k hk id).mono fun k hk => Nat.lt_of_lt_of_le hk hx.size) hc ckb0 ckb0).mono fun e w8 h => ⟨by rw [h.1, same0], hx.trans h.2 fun _ _ h => h⟩
  have CF : Hid (∀ wx : World, Fr No w7 wx → Calls Tryz.prog 13 #[.int .i64 1] wx fun e w' => e = .returned (.string ⟨#[99, 97, 116, 45, 48, 48, 48, 48, 48, 48, 48, 49]⟩) ∧ Fr No w w') := Lib.hid fun wx hx =>
    (file_any 1 wx (V7.out.keep hx) (by omega) (by omega)).mono fun e w8 h => ⟨by rw [h.1, file0], (F7.out.trans hx fun _ _ h => h).trans h.2 fun _ _ h => h⟩
  unfold ckv smallP at CS CM
  clear hck hck7 f6 f7 f67 b7 hw7 hg
  unfold ckv smallP
  go_upto_region 7 with fail
  rw [HW7.out, HG.out]
  go_region_with (first
    | (go_at_call 33; refine (CS.out _ (by first | exact ((Fr.refl No w7).drew) | exact (Fr.refl No w7))).mono ?_; rintro e w8 ⟨C1, i1, j1, C2, i2, j2, C3, i3, j3, C4, i4, j4, rfl, f8, hc, hb⟩; have F8 := Lib.hid f8; have HC8 := Lib.hid hc; have y0 : w8.cell? ⟨g, 0, none⟩ = some (.int .i64 2) := hb.cell 0; have y1 : w8.cell? ⟨g, 1, none⟩ = some (.slice A1 n1 c1) := hb.cell 1; have y2 : w8.cell? ⟨g, 2, none⟩ = some (.slice A2 n2 c2) := hb.cell 2; have y3 : w8.cell? ⟨g, 3, none⟩ = some (.slice A3 n3 c3) := hb.cell 3; have y4 : w8.cell? ⟨g, 4, none⟩ = some (.slice A4 n4 c4) := hb.cell 4; clear f8 hc hb)
    | (go_at_call 16; refine (CM.out _ _ _ _ _ _ _ _ _ _ _ _ _ F8.out HC8.out).mono ?_; rintro e w9 ⟨rfl, f9⟩; have F9 := Lib.hid f9; clear f9))
  all_goals
    go_wp2_with fail
    refine (CF.out _ F9.out).mono ?_
    rintro e w10 ⟨rfl, f10⟩
    have F10 := Lib.hid f10
    clear f10
    go_wp2
    go_ret
    exact ⟨rfl, F10.out⟩
end Go.Proofs.YtikpojnmaiplnaaGreatDoor
/- CatalogNil walked. -/
namespace Go.Proofs.YtikpojnmaiplnaaGreatDoor
open Go.RowKit Go.Maps Go.Sort
set_option linter.unusedVariables false

set_option maxRecDepth 100000 in
set_option maxHeartbeats 1000000 in
theorem save_nil (n : Int) (A1 : Option Addr) (n1 k1 : Nat) (A2 : Option Addr) (n2 k2 : Nat) (A3 : Option Addr) (n3 k3 : Nat) (A4 : Option Addr) (n4 k4 : Nat) (w : World) :
    Calls Tryz.prog 27 #[.pointer none, .agg #[.int .i64 n, .slice A1 n1 k1, .slice A2 n2 k2, .slice A3 n3 k3, .slice A4 n4 k4]] w fun e w' => e = .returned (.int .i64 1) ∧ Fr No w w' := by
  obtain ⟨w1, hw1⟩ : ∃ w1, w.alloc (.cells #[.int .i64 n, .slice A1 n1 k1, .slice A2 n2 k2, .slice A3 n3 k3, .slice A4 n4 k4] 28) = w1 := ⟨_, rfl⟩
  have f1 : Fr No w w1 := by rw [← hw1]; exact (Fr.refl _ w).alloc _
  have HW1 := Lib.hid hw1
  have F1 := Lib.hid f1
  clear hw1 f1
  go_enter Tryz.func27, Tryz.ntmps27
  go_wp2
  go_ret
  exact ⟨rfl, by first | exact F1.out | (rw [HW1.out]; exact F1.out)⟩

theorem frame0 : ∃ l, frameR [] = l ∧ (readP l).2 = 27 ∧ l.length = 8 := ⟨_, rfl, by kernel_rfl, by kernel_rfl⟩
set_option maxRecDepth 100000 in
set_option maxHeartbeats 2000000 in
theorem catalogNil_any (n : Int) (A1 : Option Addr) (n1 k1 : Nat) (A2 : Option Addr) (n2 k2 : Nat) (A3 : Option Addr) (n3 k3 : Nat) (A4 : Option Addr) (n4 k4 : Nat) (w : World) (hv : Vr w) :
    Calls Tryz.prog 9 #[.agg #[.int .i64 n, .slice A1 n1 k1, .slice A2 n2 k2, .slice A3 n3 k3, .slice A4 n4 k4]] w fun e w' => e = .returned (.bool true) ∧ Fr No w w' := by
  obtain ⟨B, hB⟩ : ∃ B, w.heap.size = B := ⟨_, rfl⟩
  obtain ⟨w1, hw1⟩ : ∃ w1, w.alloc (.cells #[.int .i64 n, .slice A1 n1 k1, .slice A2 n2 k2, .slice A3 n3 k3, .slice A4 n4 k4] 28) = w1 := ⟨_, rfl⟩
  have f1 : Fr No w w1 := by rw [← hw1]; exact (Fr.refl _ w).alloc _
  have b1 : Blk w1 B 28 #[.int .i64 n, .slice A1 n1 k1, .slice A2 n2 k2, .slice A3 n3 k3, .slice A4 n4 k4] := by rw [← hw1, ← hB]; exact Blk.new w 28 _
  have HW1 := Lib.hid hw1
  have F1 := Lib.hid f1
  have B1 := Lib.hid b1
  have V1 := Lib.hid (hv.keep f1)
  have HB := Lib.hid hB
  have CL := Lib.hid (load_nil w1)
  clear hw1 f1 b1 hv hB
  go_enter Tryz.func9, Tryz.ntmps9
  go_wp2_with fail
  rw [HW1.out]
  refine CL.out.mono ?_
  clear CL
  rintro e w2 ⟨dv, mv, vv, bv, rfl, f2, hck⟩
  obtain ⟨C1, i1, j1, C2, i2, j2, C3, i3, j3, C4, i4, j4, rfl, rfl, rfl, rfl⟩ := hck.forms
  obtain ⟨w3, hw3⟩ : ∃ w3, w2.alloc (.cells #[.int .i64 0, .slice C1 i1 j1, .slice C2 i2 j2, .slice C3 i3 j3, .slice C4 i4 j4] 28) = w3 := ⟨_, rfl⟩
  have f3 : Fr No w1 w3 := by rw [← hw3]; exact f2.alloc _
  have HW3 := Lib.hid hw3
  have F3 := Lib.hid f3
  clear hck f2 f3 hw3
  obtain ⟨l, hl, hr, hn⟩ := frame0
  have CF := rframe_any [] w3 (by simp)
  unfold Framed at CF
  rw [frameV_ok (by simp), hl] at CF
  have CR : Hid (∀ wx : World, Calls Tryz.prog 15 #[sv l] wx (RdP wx (readP l).1 27)) := Lib.hid fun wx => by rw [← hr]; exact read_ck_any l wx (by omega)
  have HCF := Lib.hid CF
  clear hl hr hn CF
  generalize (readP l).1 = rc at *
  unfold ckv CkP.zero
  go_wp2_with fail
  rw [HW3.out]
  refine HCF.out.mono ?_
  clear HCF
  rintro e w4 ⟨rfl, b4⟩
  have f4 : Fr No w3 w4 := ⟨b4.os, b4.tape, b4.output, b4.size, fun k hk _ => b4.block k hk⟩
  have F4 := Lib.hid (F3.out.trans f4 fun _ _ h => h)
  clear b4 f4
  go_wp2_with fail
  refine (CR.out _).mono ?_
  clear CR
  rintro e w5 ⟨dv, mv, vv, bv, rfl, f5, hck⟩
  obtain ⟨D1, p1, q1, D2, p2, q2, D3, p3, q3, D4, p4, q4, rfl, rfl, rfl, rfl⟩ := hck.forms
  obtain ⟨w6, hw6⟩ : ∃ w6, w5.alloc (.cells #[.int .i64 rc.seq, .slice D1 p1 q1, .slice D2 p2 q2, .slice D3 p3 q3, .slice D4 p4 q4] 28) = w6 := ⟨_, rfl⟩
  have f6 : Fr No w1 w6 := by rw [← hw6]; exact (F4.out.trans f5 fun _ _ h => h).alloc _
  have HW6 := Lib.hid hw6
  have F6 := Lib.hid f6
  have CA := Lib.hid (awake_any w6 (V1.out.keep f6))
  clear hck f5 f6 hw6
  unfold ckv
  go_wp2_with fail
  rw [HW6.out]
  refine CA.out.mono ?_
  clear CA
  rintro e w7 ⟨rfl, f7⟩
  have f17 := F6.out.trans f7 fun _ _ h => h
  have b7 := B1.out.of (f17.block _ B1.out.lt id)
  have x0 : w7.cell? ⟨B, 0, none⟩ = some (.int .i64 n) := b7.cell 0
  have x1 : w7.cell? ⟨B, 1, none⟩ = some (.slice A1 n1 k1) := b7.cell 1
  have x2 : w7.cell? ⟨B, 2, none⟩ = some (.slice A2 n2 k2) := b7.cell 2
  have x3 : w7.cell? ⟨B, 3, none⟩ = some (.slice A3 n3 k3) := b7.cell 3
  have x4 : w7.cell? ⟨B, 4, none⟩ = some (.slice A4 n4 k4) := b7.cell 4
  have F7 := Lib.hid (F1.out.trans f17 fun _ _ h => h)
  clear f7 f17 b7
  rw [HB.out]
  go_wp2_with fail
  refine (save_nil _ _ _ _ _ _ _ _ _ _ _ _ _ _).mono ?_
  rintro e w8 ⟨rfl, f8⟩
  have F8 := Lib.hid (F7.out.trans f8 fun _ _ h => h)
  clear f8
  go_wp2
  go_ret
  exact ⟨rfl, F8.out⟩
end Go.Proofs.YtikpojnmaiplnaaGreatDoor
/- A checkpoint as an argument: opened, with what it weighs. -/
namespace Go.Proofs.YtikpojnmaiplnaaGreatDoor
open Go.RowKit Go.ChangeShapes Go.WideShapes Go.ChangeAt
set_option linter.unusedVariables false

instance : Inhabited FactP := ⟨⟨[], []⟩⟩
theorem one_eq {a v : Value} (h : [a] = [v]) : a = v := by injection h
theorem len2 {cs : List Value} (h : cs.length = 2) : ∃ a b, cs = [a, b] := by
  match cs, h with
  | [a, b], _ => exact ⟨a, b, rfl⟩
theorem wf_i64_bd {n : Int} (h : (Lit.int .i64 n).wf = true) : -9223372036854775808 ≤ n ∧ n ≤ 9223372036854775807 := by
  simp only [Lit.wf, Bool.and_eq_true, decide_eq_true_eq] at h
  simp [IntKind.min, IntKind.max, IntKind.signed, IntKind.bits] at h
  omega

set_option maxRecDepth 100000 in
theorem Tryz.c2 : Tryz.prog.cellsOf 2 = 1 := by kernel_rfl
theorem Tryz.c3 : Tryz.prog.cellsOf 3 = 1 := by kernel_rfl
theorem Tryz.c9 : Tryz.prog.cellsOf 9 = 1 := by kernel_rfl
theorem Tryz.c22 : Tryz.prog.cellsOf 22 = 1 := by kernel_rfl
theorem Tryz.c137 : Tryz.prog.cellsOf 137 = 1 := by kernel_rfl
theorem Tryz.c139 : Tryz.prog.cellsOf 139 = 2 := by kernel_rfl
theorem Tryz.c76 : Tryz.prog.cellsOf 76 = 1 := by kernel_rfl
theorem Tryz.c26 : Tryz.prog.cellsOf 26 = 1 := by kernel_rfl
theorem Tryz.c25 : Tryz.prog.cellsOf 25 = 1 := by kernel_rfl
theorem Tryz.c24 : Tryz.prog.cellsOf 24 = 2 := by kernel_rfl
theorem Tryz.c28 : Tryz.prog.cellsOf 28 = 5 := by kernel_rfl
section
variable {H : Type} {enc : TypeId × Value → H} {M : Nat}
theorem bulk_one (d : DataW H) : 1 ≤ Rows.uptoBulk d := by
  cases d with
  | lit l => cases l <;> simp [Rows.uptoBulk]
  | nil => simp [Rows.uptoBulk]
  | ptr d => simp [Rows.uptoBulk]
  | slice elems spare => simp [Rows.uptoBulk]
  | agg parts => simp [Rows.uptoBulk]
  | iface t d => simp [Rows.uptoBulk]
  | map entries => simp [Rows.uptoBulk]
  | held h => simp [Rows.uptoBulk]
theorem bulk_sum {α : Type} (f : Nat → α) (β : α → Nat) (D : Nat → DataW H) : ∀ L : List Nat, (∀ i ∈ L, β (f i) ≤ 16 * Rows.uptoBulk (D i)) → ((L.map f).map β).sum ≤ 16 * Rows.uptoBulkAll (L.map D)
  | [], _ => by simp
  | i :: L, h => by
    have h1 := h i (by simp)
    have h2 := bulk_sum f β D L fun j hj => h j (by simp [hj])
    simp only [List.map_cons, List.sum_cons, Rows.uptoBulkAll]
    omega
theorem bulk_part {d : DataW H} : ∀ {l : List (DataW H)}, d ∈ l → Rows.uptoBulk d ≤ Rows.uptoBulkAll l
  | [], h => by cases h
  | x :: l, h => by
    simp only [Rows.uptoBulkAll]
    rcases List.mem_cons.1 h with rfl | h
    · omega
    · have := bulk_part h; omega

/-- Any row, its elements opened by a way of their own, and what it weighs. -/
theorem open_rowB {α : Type} [Inhabited α] {W : World} (E : α → List Value → Prop) (β : α → Nat) (t e size : Nat) (ht : Tryz.prog.underlying t = some (.slice e)) (hsz : Tryz.prog.cellsOf e = size) (h0 : 0 < size)
    (hE : ∀ fuel cs x, cs.length = size → DataW.trod enc Tryz.prog W 0 (fun _ => true) true fuel e cs = some x → Rows.uptoBulk x.1 ≤ M → ∃ y, E y cs ∧ β y ≤ 16 * Rows.uptoBulk x.1)
    {fuel : Nat} {cs : List Value} {x : DataW H × List MemPlace} (h : DataW.trod enc Tryz.prog W 0 (fun _ => true) true fuel t cs = some x) (hb : Rows.uptoBulk x.1 ≤ M) :
    ∃ v l, cs = [v] ∧ RowE (fun k => k < W.heap.size) W size E v l ∧ (∀ A n c, v = .slice A n c → n ≤ c) ∧ 4 + (l.map β).sum ≤ 16 * Rows.uptoBulk x.1 := by
  rcases Go.Deep.open_slice ht h with ⟨rfl, rfl⟩ | ⟨a, len, cap, m, n, D, Pl, rfl, hbs, hl, hm, hmm, rfl, hi⟩
  · refine ⟨_, [], rfl, RowE.nil _ _ _ _ _, fun A n c e => ?_, by simp [Rows.uptoBulk]⟩
    injection e with e1 e2 e3; omega
  · simp only [if_true] at hmm
    rw [hsz] at hi
    simp only [Rows.uptoBulk] at hb ⊢
    have hel : ∀ i, ∃ y : α, i < len → (∃ cs' : List Value, cs'.length = size ∧ (∀ j, j < size → W.cell? ((a.add (i * size)).add j) = cs'[j]?) ∧ E y cs') ∧ β y ≤ 16 * Rows.uptoBulk (D i) := by
      intro i
      by_cases hil : i < len
      · obtain ⟨cs', hc, htr⟩ := hi i (by omega)
        obtain ⟨_, hlen, hat⟩ := World.cells?_some hc
        have hp : Rows.uptoBulk (D i) ≤ Rows.uptoBulkAll ((List.range len).map D) := bulk_part (List.mem_map.2 ⟨i, List.mem_range.2 hil, rfl⟩)
        obtain ⟨y, hy, hw⟩ := hE _ _ _ hlen htr (by show Rows.uptoBulk (D i) ≤ M; omega)
        exact ⟨y, fun _ => ⟨⟨cs', hlen, hat, hy⟩, hw⟩⟩
      · exact ⟨default, fun h => absurd h hil⟩
    obtain ⟨f, hf⟩ := Classical.axiomOfChoice hel
    refine ⟨_, (List.range len).map f, rfl, ⟨some a, cap, by simp, by simp; omega, fun hl0 => ?_⟩, fun A n c e => ?_, ?_⟩
    · have hlen0 : 0 < len := by simpa using hl0
      obtain ⟨cs0, hl1, hc0, _⟩ := (hf 0 hlen0).1
      have hc00 := hc0 0 h0
      rw [List.getElem?_eq_getElem (by omega)] at hc00
      obtain ⟨b, off, spot⟩ := a
      have hspot : spot = none := by simpa [Addr.add] using World.cell?_spot hc00
      subst hspot
      refine ⟨b, off, rfl, ?_, fun j hj => ?_⟩
      · have := World.block_lt_of_cell? W _ hc00
        simpa [Addr.add] using this
      · rw [List.length_map, List.length_range] at hj
        obtain ⟨cs', h1, h2, h3⟩ := (hf j hj).1
        refine ⟨cs', h1, fun i hi' => ?_, by rw [List.getElem_map, List.getElem_range]; exact h3⟩
        have := h2 i hi'
        rw [Addr.add_lit, Addr.add_lit] at this
        exact this
    · injection e with e1 e2 e3; omega
    · have := bulk_sum f β D (List.range len) fun i hi => (hf i (List.mem_range.1 hi)).2
      omega

theorem row_bytes {α : Type} (b : α → List UInt8) (l : List α) : (bRow b l).length = 4 + (l.map fun x => (b x).length).sum := by
  unfold bRow
  rw [List.length_append, low_len]
  induction l with
  | nil => rfl
  | cons x l ih =>
    have := ih
    simp only [List.flatMap_cons, List.length_append, List.map_cons, List.sum_cons] at this ⊢
    omega
theorem flat_many {α : Type} (b : α → List UInt8) (h : ∀ x, 1 ≤ (b x).length) : ∀ l : List α, l.length ≤ (l.flatMap b).length
  | [] => by simp
  | x :: l => by
    have h1 := h x
    have h2 := flat_many b h l
    simp only [List.flatMap_cons, List.length_append, List.length_cons]
    omega
theorem bText_len (s : List UInt8) : (bText s).length = 4 + s.length := by unfold bText; rw [List.length_append, low_len]
theorem enc8_len (n : Int) : (enc8 n).length = 8 := by unfold enc8; rw [low_len]
variable {W : World}
theorem openB_str (fuel : Nat) (cs : List Value) (x : DataW H × List MemPlace) (hl : cs.length = 1) (h : DataW.trod enc Tryz.prog W 0 (fun _ => true) true fuel 9 cs = some x) (hb : Rows.uptoBulk x.1 ≤ M) : ∃ y, strE y cs ∧ (bText y).length ≤ 16 * Rows.uptoBulk x.1 := by
  obtain ⟨s, e4, rfl, w4⟩ := DataW.trod_string Tryz.underlying9 h
  refine ⟨s.data.toList, ⟨e4, (Array.length_toList (xs := s.data)).symm ▸ w4⟩, ?_⟩
  rw [bText_len]
  simp only [Rows.uptoBulk]
  omega
theorem openB_int (fuel : Nat) (cs : List Value) (x : DataW H × List MemPlace) (hl : cs.length = 1) (h : DataW.trod enc Tryz.prog W 0 (fun _ => true) true fuel 2 cs = some x) (hb : Rows.uptoBulk x.1 ≤ M) : ∃ y, intE y cs ∧ (enc8 y).length ≤ 16 * Rows.uptoBulk x.1 := by
  obtain ⟨n, e, r, w⟩ := DataW.trod_int Tryz.underlying2 h
  have h1 := bulk_one x.1
  exact ⟨n, ⟨e, wf_i64_bd w⟩, by rw [enc8_len]; omega⟩
theorem openB_strs {fuel : Nat} {cs : List Value} {x : DataW H × List MemPlace} (h : DataW.trod enc Tryz.prog W 0 (fun _ => true) true fuel 22 cs = some x) (hb : Rows.uptoBulk x.1 ≤ M) : ∃ v l, cs = [v] ∧ RowE (fun k => k < W.heap.size) W 1 strE v l ∧ (bRow bText l).length ≤ 16 * Rows.uptoBulk x.1 := by
  obtain ⟨v, l, e, r, _, hw⟩ := open_rowB strE (fun s => (bText s).length) 22 9 1 Tryz.underlying22 Tryz.c9 (by omega) openB_str h hb
  exact ⟨v, l, e, r, by rw [row_bytes]; exact hw⟩
theorem openB_ints {fuel : Nat} {cs : List Value} {x : DataW H × List MemPlace} (h : DataW.trod enc Tryz.prog W 0 (fun _ => true) true fuel 137 cs = some x) (hb : Rows.uptoBulk x.1 ≤ M) : ∃ v l, cs = [v] ∧ RowE (fun k => k < W.heap.size) W 1 intE v l ∧ (bRow enc8 l).length ≤ 16 * Rows.uptoBulk x.1 := by
  obtain ⟨v, l, e, r, _, hw⟩ := open_rowB intE (fun s => (enc8 s).length) 137 2 1 Tryz.underlying137 Tryz.c2 (by omega) openB_int h hb
  exact ⟨v, l, e, r, by rw [row_bytes]; exact hw⟩
set_option maxRecDepth 100000 in
theorem openB_fact (fuel : Nat) (cs : List Value) (x : DataW H × List MemPlace) (hl : cs.length = 2) (h : DataW.trod enc Tryz.prog W 0 (fun _ => true) true fuel 139 cs = some x) (hb : Rows.uptoBulk x.1 ≤ M) : ∃ y, factE (fun k => k < W.heap.size) W y cs ∧ (bFact y).length ≤ 16 * Rows.uptoBulk x.1 := by
  obtain ⟨xs, n, _, rfl, hlen, hxl, hg⟩ := DataW.trod_struct Tryz.underlying139 h
  obtain ⟨a, b, rfl⟩ := len2 hl
  have hx3 : xs.length = 2 := hxl
  match xs, hx3 with
  | [x0, x1], _ =>
    have g0 : DataW.trod enc Tryz.prog W 0 (fun _ => true) true n 22 (([a, b].drop 0).take (Tryz.prog.cellsOf 22)) = some x0 := hg 0 _ rfl
    have g1 : DataW.trod enc Tryz.prog W 0 (fun _ => true) true n 137 (([a, b].drop 1).take (Tryz.prog.cellsOf 137)) = some x1 := hg 1 _ rfl
    rw [Tryz.c22] at g0
    rw [Tryz.c137] at g1
    simp only [List.map_cons, List.map_nil, Rows.uptoBulk, Rows.uptoBulkAll] at hb ⊢
    obtain ⟨v0, l0, e0, r0, b0⟩ := openB_strs (M := M) g0 (by omega)
    obtain ⟨v1, l1, e1, r1, b1⟩ := openB_ints (M := M) g1 (by omega)
    obtain rfl := one_eq e0
    obtain rfl := one_eq e1
    refine ⟨⟨l0, l1⟩, ⟨_, _, rfl, r0, r1⟩, ?_⟩
    unfold bFact
    rw [List.length_append]
    simp only
    omega

theorem openB_int3 (fuel : Nat) (cs : List Value) (x : DataW H × List MemPlace) (hl : cs.length = 1) (h : DataW.trod enc Tryz.prog W 0 (fun _ => true) true fuel 3 cs = some x) (hb : Rows.uptoBulk x.1 ≤ M) : ∃ y, intE y cs ∧ (enc8 y).length ≤ 16 * Rows.uptoBulk x.1 := by
  obtain ⟨n, e, r, w⟩ := DataW.trod_int Tryz.underlying3 h
  have h1 := bulk_one x.1
  exact ⟨n, ⟨e, wf_i64_bd w⟩, by rw [enc8_len]; omega⟩
theorem openB_bat (fuel : Nat) (cs : List Value) (x : DataW H × List MemPlace) (hl : cs.length = 1) (h : DataW.trod enc Tryz.prog W 0 (fun _ => true) true fuel 76 cs = some x) (hb : Rows.uptoBulk x.1 ≤ M) : ∃ y, batE (fun k => k < W.heap.size) W y cs ∧ (bRow bFact y).length ≤ 16 * Rows.uptoBulk x.1 := by
  obtain ⟨v, l, e, r, _, hw⟩ := open_rowB (M := M) (factE (fun k => k < W.heap.size) W) (fun f => (bFact f).length) 76 139 2 Tryz.underlying76 Tryz.c139 (by omega) openB_fact h hb
  exact ⟨l, ⟨v, e, r⟩, by rw [row_bytes]; exact hw⟩
set_option maxRecDepth 100000 in
theorem openB_ck {v : Value} {d : DataW H} {ps : List MemPlace} {b0 : Nat} (hval : Value.okWide Tryz.prog W .any b0 28 v) (h : DataW.Trod enc Tryz.prog W 0 (fun _ => true) true 28 v d ps) (hb : Rows.uptoBulk d ≤ M) :
    ∃ c dv mv vv bv, v = ckv c dv mv vv bv ∧ CkAt (fun k => k < W.heap.size) W c dv mv vv bv ∧ (bRow bText c.dims).length + (bRow bText c.meas).length + (4 + (c.views.map fun x => (enc8 x).length).sum) + (4 + (c.bats.map fun b => (bRow bFact b).length).sum) ≤ 16 * Rows.uptoBulk d := by
  obtain ⟨cs, rfl, hsz⟩ := okWide_struct Tryz.underlying28 hval
  obtain ⟨fuel, hf⟩ := h
  rw [Tryz.c28] at hsz
  obtain ⟨csl⟩ := cs
  have hl5 : csl.length = 5 := hsz
  obtain ⟨a, b, c, e, f, rfl⟩ : ∃ a b c e f, csl = [a, b, c, e, f] := by
    match csl, hl5 with
    | [a, b, c, e, f], _ => exact ⟨a, b, c, e, f, rfl⟩
  have hf' : DataW.trod enc Tryz.prog W 0 (fun _ => true) true fuel 28 [a, b, c, e, f] = some (d, ps) := by simpa [Value.cells] using hf
  obtain ⟨xs, n, hx, hd, hlen, hxl, hg⟩ := DataW.trod_struct Tryz.underlying28 hf'
  have hx3 : xs.length = 4 := hxl
  match xs, hx3 with
  | [x0, x1, x2, x3], _ =>
    have g0 : DataW.trod enc Tryz.prog W 0 (fun _ => true) true n 3 (([a, b, c, e, f].drop 0).take (Tryz.prog.cellsOf 3)) = some x0 := hg 0 _ rfl
    have g1 : DataW.trod enc Tryz.prog W 0 (fun _ => true) true n 24 (([a, b, c, e, f].drop 1).take (Tryz.prog.cellsOf 24)) = some x1 := hg 1 _ rfl
    have g2 : DataW.trod enc Tryz.prog W 0 (fun _ => true) true n 25 (([a, b, c, e, f].drop 3).take (Tryz.prog.cellsOf 25)) = some x2 := hg 2 _ rfl
    have g3 : DataW.trod enc Tryz.prog W 0 (fun _ => true) true n 26 (([a, b, c, e, f].drop 4).take (Tryz.prog.cellsOf 26)) = some x3 := hg 3 _ rfl
    rw [Tryz.c3] at g0
    rw [Tryz.c24] at g1
    rw [Tryz.c25] at g2
    rw [Tryz.c26] at g3
    injection hd with hd1 hd2
    subst hd1
    simp only [List.map_cons, List.map_nil, Rows.uptoBulk, Rows.uptoBulkAll] at hb ⊢
    obtain ⟨n0, e0, r0, w0⟩ := DataW.trod_int Tryz.underlying3 g0
    obtain ⟨ys, m, _, hy, _, hyl, hh⟩ := DataW.trod_struct Tryz.underlying24 g1
    have hy2 : ys.length = 2 := hyl
    match ys, hy2 with
    | [y0, y1], _ =>
      have k0 : DataW.trod enc Tryz.prog W 0 (fun _ => true) true m 22 (([b, c].drop 0).take (Tryz.prog.cellsOf 22)) = some y0 := hh 0 _ rfl
      have k1 : DataW.trod enc Tryz.prog W 0 (fun _ => true) true m 22 (([b, c].drop 1).take (Tryz.prog.cellsOf 22)) = some y1 := hh 1 _ rfl
      rw [Tryz.c22] at k0 k1
      subst hy
      simp only [List.map_cons, List.map_nil, Rows.uptoBulk, Rows.uptoBulkAll] at hb ⊢
      obtain ⟨v1, l1, e1, q1, b1⟩ := openB_strs (M := M) k0 (by omega)
      obtain ⟨v2, l2, e2, q2, b2⟩ := openB_strs (M := M) k1 (by omega)
      obtain ⟨v3, l3, e3, q3, _, b3⟩ := open_rowB (M := M) intE (fun s => (enc8 s).length) 25 3 1 Tryz.underlying25 Tryz.c3 (by omega) openB_int3 g2 (by omega)
      obtain ⟨v4, l4, e4, q4, _, b4⟩ := open_rowB (M := M) (batE (fun k => k < W.heap.size) W) (fun b => (bRow bFact b).length) 26 76 1 Tryz.underlying26 Tryz.c76 (by omega) openB_bat g3 (by omega)
      obtain rfl := one_eq e0
      obtain rfl := one_eq e1
      obtain rfl := one_eq e2
      obtain rfl := one_eq e3
      obtain rfl := one_eq e4
      exact ⟨⟨n0, l1, l2, l3, l4⟩, _, _, _, _, rfl, ⟨wf_i64_bd w0, q1, q2, q3, q4⟩, by simp only; omega⟩
end
end Go.Proofs.YtikpojnmaiplnaaGreatDoor
/- The rows of the catalog: what they have in common: the laid variables; CatalogNil: for every input it returns true, and its argument reads as it did. -/
namespace Go.Proofs.YtikpojnmaiplnaaGreatDoor
open Go.RowKit Go.ChangeShapes Go.WideShapes Go.ChangeAt
open Go.ChangeMaps (open_string shut_string)
set_option linter.unusedVariables false

theorem Tryz.laidOut : laidOutB Tryz.prog = true := by kernel_rfl
theorem ownN : ownKnob Tryz.prog.godebug = none := by kernel_rfl
theorem rowErr (u : TypeId) (h : Tryz.prog.typeName? 3 u = some "*errors.errorString") : u = 266 :=
  typeName_ptr_named (nm := "errors.errorString") (by rw [show "*" ++ "errors.errorString" = "*errors.errorString" by decide]; kernel_rfl) (by kernel_rfl) (by decide) u (by rw [show "*" ++ "errors.errorString" = "*errors.errorString" by decide]; exact h)
def laidN : List (String × DataW Unit) := [("math/bits.deBruijn32tab", Rows.laid_math_bits_deBruijn32tab), ("math/bits.deBruijn64tab", Rows.laid_math_bits_deBruijn64tab), ("internal/strconv.uint64pow10", Rows.laid_internal_strconv_uint64pow10), ("strconv.ErrRange", Rows.laid_strconv_ErrRange), ("strconv.ErrSyntax", Rows.laid_strconv_ErrSyntax)]
theorem vr_of_laid {W : World} (h0 : laidMetH Tryz.prog laidN W) : Vr W := by
  have h : laidMet Tryz.prog laidN W := by
    rw [MakeChecks.laidMetH_plain _ _ _ (by kernel_rfl)] at h0
    exact h0
  have h3 := laidMet.tail (laidMet.tail h)
  obtain ⟨a0, s0, hv0, _⟩ := laid_sentinel (g := 2) (laidMet.tail h3) (by kernel_rfl) (by kernel_rfl) Tryz.underlying142 rowErr Tryz.underlying266 Tryz.underlying268 rfl rfl Tryz.underlying9 (by kernel_rfl) (by kernel_rfl)
  obtain ⟨a1, s1, hv1, _⟩ := laid_sentinel (g := 1) (laidMet.tail (laidMet.tail h3)) (by kernel_rfl) (by kernel_rfl) Tryz.underlying142 rowErr Tryz.underlying266 Tryz.underlying268 rfl rfl Tryz.underlying9 (by kernel_rfl) (by kernel_rfl)
  exact ⟨Lib.tabIs_of_head (g := 0) (t := 236) (e := 82) (n := 20) (by kernel_rfl) (by kernel_rfl) Tryz.underlying236 Tryz.underlying82 (by kernel_rfl) (by kernel_rfl) h3, ⟨_, _, hv1⟩, ⟨_, _, hv0⟩⟩

theorem door_met (os : Os) (args : Array Value) : laidMetH Tryz.prog laidN ((World.doorLaid Tryz.prog 400 os).forCall (fun _ _ => 0) ⟨#[], args, []⟩).memory := by
  rw [MakeChecks.laidMetH_plain _ _ _ (by kernel_rfl)]
  exact laidMet_of_run' 8 (by kernel_rfl) (by kernel_rfl)
end Go.Proofs.YtikpojnmaiplnaaGreatDoor
