/- A crash: names first, then bytes. -/
import Derived.Test.YtoaiofjcjjkfaaaGreatDoorM1
namespace Go.Proofs.YtoaiofjcjjkfaaaGreatDoor
open Go.RowKit Go.Maps Go.Sort
set_option linter.unusedVariables false

/-- The names behind the first k loose changes. -/
def past (S : AS) (k : Nat) : DU := (S.loose.take k).foldl (fun D c => c.app D) S.firm
theorem past_zero (S : AS) : past S 0 = S.firm := rfl
theorem past_succ (S : AS) (k : Nat) (hk : k < S.loose.length) : past S (k + 1) = (S.loose[k]).app (past S k) := by
  unfold past
  rw [List.take_succ_eq_append_getElem hk, List.foldl_append]
  rfl

theorem At.fresh {w w' : World} {d nb : Nat} {R : Rp} {S : AS} (h : At w d R S) (hf : Fr (One d) w w') (hb : Blk w' d 109 (cellsOf S { R with nm := some nb }))
    (ho : w'.ownsMap Tryz.prog 9 (plainElem Tryz.prog 3) nb 0 (.map [] : DU)) (hnb : w.heap.size ≤ nb) : At w' d { R with nm := some nb } { S with names := .map [] } := by
  obtain ⟨a1, a2, a3, a4, a5⟩ := h.apart
  have ne : ∀ k, foot d R S k → k ≠ d → w'.heap[k]? = w.heap[k]? := fun k hk hn => hf.block k (h.lt k hk) hn
  exact {
    blk := hb
    names := ho
    firm := h.firm.of fun b hb => ne _ (.inr (.inr (.inl hb))) (fun e => a2 (e ▸ hb))
    files := h.files.of fun b hb => ne _ (.inr (.inr (.inr (.inl hb)))) (fun e => a3 (e ▸ hb))
    loose := own_of h.loose fun k hk => ne _ (.inr (.inr (.inr (.inr (.inl hk))))) (fun e => a4 (e ▸ hk))
    fd := fun n => (h.fd n).of fun r hr k hk => ne _ (.inr (.inr (.inr (.inr (.inr ⟨n, r, hr, hk⟩))))) (fun e => by
      rcases hk with hk | hk
      · exact (a5 n r hr).1 (hk ▸ e)
      · exact (a5 n r hr).2 (e ▸ hk))
    ne1 := fun k hk e => by
      have := Option.some.inj (show some nb = some k from hk)
      have := h.firm.lt k e
      omega
    ne2 := fun k hk e => by
      have := Option.some.inj (show some nb = some k from hk)
      have := h.files.lt k e
      omega
    ne3 := h.ne3
    ap := h.ap
    onn := fun ho => by obtain ⟨b, c, e1, e2⟩ := h.onn ho; exact ⟨nb, c, rfl, e2⟩ }
theorem PR.fresh {w w' : World} {d nb : Nat} {R : Rp} {S : AS} (h : At w d R S) (hf : Fr (One d) w w') (hb : Blk w' d 109 (cellsOf S { R with nm := some nb }))
    (ho : w'.ownsMap Tryz.prog 9 (plainElem Tryz.prog 3) nb 0 (.map [] : DU)) (hnb : w.heap.size ≤ nb) : PR d R S w { R with nm := some nb } { S with names := .map [] } w' := by
  refine ⟨h.fresh hf hb ho hnb, hf.mono fun k _ hk => .inl hk, fun k hk => ?_⟩
  rcases hk with hk | hk | hk | hk | hk | hk
  · exact .inl (.inl hk)
  · exact .inr (by have := Option.some.inj (show some nb = some k from hk); omega)
  · exact .inl (.inr (.inr (.inl hk)))
  · exact .inl (.inr (.inr (.inr (.inl hk))))
  · exact .inl (.inr (.inr (.inr (.inr (.inl hk)))))
  · exact .inl (.inr (.inr (.inr (.inr (.inr hk)))))
theorem PR.named {w w' : World} {d b : Nat} {R : Rp} {S : AS} (h : At w d R S) (hnm : R.nm = some b) {D : DU} (hf : Fr (One b) w w') (ho : w'.ownsMap Tryz.prog 9 (plainElem Tryz.prog 3) b (Maps.size D) D) :
    PR d R S w R { S with names := D } w' :=
  ⟨h.named hnm hf ho, hf.mono fun k _ hk => .inr (.inl (by rw [hnm, show k = b from hk])), fun k hk => .inl hk⟩

theorem flat_at : ∀ (L : List Ch) (i : Nat) (hi : i < L.length) (j : Nat), j < 3 → (L.flatMap Ch.cells)[i * 3 + j]? = (L[i].cells)[j]?
  | [], i, hi, _, _ => by simp at hi
  | c :: L, 0, _, j, hj => by
    rw [List.flatMap_cons, Nat.zero_mul, Nat.zero_add, List.getElem?_append_left (by simp [Ch.cells]; omega)]
    rfl
  | c :: L, i + 1, hi, j, hj => by
    rw [List.flatMap_cons, List.getElem?_append_right (by simp [Ch.cells]; omega)]
    have e : (i + 1) * 3 + j - c.cells.length = i * 3 + j := by simp [Ch.cells]; omega
    rw [e, flat_at L i (by simpa using hi) j hj]
    rfl

theorem loose_at {w : World} {lA : Option Addr} {lc : Nat} {L : List Ch} (h : w.ownsRow 0 114 3 (.slice lA L.length lc) L.length (L.flatMap Ch.cells)) {i : Nat} (hi : i < L.length) :
    ∃ gl, lA = some ⟨gl, 0, none⟩ ∧ L.length ≤ lc ∧ w.cell? ⟨gl, i * 3, none⟩ = some (.string ⟨(L[i]).frm.toArray⟩) ∧ w.cell? ⟨gl, i * 3 + 1, none⟩ = some (.string ⟨(L[i]).to.toArray⟩) ∧ w.cell? ⟨gl, i * 3 + 2, none⟩ = some (.int .i64 (L[i]).file) := by
  rcases h.2 with ⟨_, h0⟩ | ⟨gl, cap, cur, e, _, hh, hn, _⟩
  · omega
  · cases e
    have hc := h.cells (g := gl) rfl
    have add : ∀ m, ((⟨gl, 0, none⟩ : Addr).add m) = ⟨gl, m, none⟩ := fun m => by unfold Addr.add; split <;> simp_all
    refine ⟨gl, rfl, hn, ?_, ?_, ?_⟩
    · have := hc (i * 3) _ ((flat_at L i hi 0 (by omega)).trans rfl); rw [add] at this; exact this
    · have := hc (i * 3 + 1) _ ((flat_at L i hi 1 (by omega)).trans rfl); rw [add] at this; exact this
    · have := hc (i * 3 + 2) _ ((flat_at L i hi 2 (by omega)).trans rfl); rw [add] at this; exact this

/-- The names of a table, rising. -/
def sortedKeys (D : DU) : List (List UInt8) := (strKeys D).mergeSort (fun x y => decide (x ≤ y))
/-- One file of a crash. -/
def crashStep (D : DU) (st : (Int → Option FR) × List Int) (l : List UInt8) : (Int → Option FR) × List Int :=
  match look D l with
  | some n => match st.1 n with
    | some r => (upd st.1 n (some (r.crash st.2)), r.rest st.2)
    | none => st
  | none => st
def crashTo (D : DU) (f : Int → Option FR) (ps : List Int) (k : Nat) : (Int → Option FR) × List Int := ((sortedKeys D).take k).foldl (crashStep D) (f, ps)
theorem crashTo_zero (D : DU) (f : Int → Option FR) (ps : List Int) : crashTo D f ps 0 = (f, ps) := rfl
theorem crashTo_succ (D : DU) (f : Int → Option FR) (ps : List Int) (k : Nat) (hk : k < (sortedKeys D).length) : crashTo D f ps (k + 1) = crashStep D (crashTo D f ps k) ((sortedKeys D)[k]) := by
  unfold crashTo
  rw [List.take_succ_eq_append_getElem hk, List.foldl_append]
  rfl
theorem crashStep_some {D : DU} {st : (Int → Option FR) × List Int} {l : List UInt8} {n : Int} {r : FR} (hn : look D l = some n) (hr : st.1 n = some r) : crashStep D st l = (upd st.1 n (some (r.crash st.2)), r.rest st.2) := by
  unfold crashStep; simp only [hn, hr]
theorem crashStep_isSome (D : DU) (st : (Int → Option FR) × List Int) (l : List UInt8) (m : Int) : ((crashStep D st l).1 m).isSome = (st.1 m).isSome := by
  unfold crashStep
  cases look D l with
  | none => rfl
  | some n =>
    cases hr : st.1 n with
    | none => simp only [hr]
    | some r =>
      simp only [hr]
      by_cases e : m = n
      · subst e; rw [upd_same, hr]; rfl
      · rw [upd_other _ _ e]
theorem crashTo_isSome (D : DU) (f : Int → Option FR) (ps : List Int) (m : Int) : ∀ k, ((crashTo D f ps k).1 m).isSome = (f m).isSome := by
  intro k
  unfold crashTo
  have : ∀ (ls : List (List UInt8)) (st : (Int → Option FR) × List Int), ((ls.foldl (crashStep D) st).1 m).isSome = (st.1 m).isSome := by
    intro ls
    induction ls with
    | nil => intro st; rfl
    | cons l ls ih => intro st; rw [List.foldl_cons, ih, crashStep_isSome]
  exact this _ _

theorem crashTo_len (D : DU) (f : Int → Option FR) (ps : List Int) : ∀ k, (crashTo D f ps k).2.length ≤ ps.length := by
  intro k
  unfold crashTo
  have : ∀ (ls : List (List UInt8)) (st : (Int → Option FR) × List Int), (ls.foldl (crashStep D) st).2.length ≤ st.2.length := by
    intro ls
    induction ls with
    | nil => intro st; exact Nat.le_refl _
    | cons l ls ih =>
      intro st
      refine Nat.le_trans (ih _) ?_
      unfold crashStep
      cases look D l with
      | none => exact Nat.le_refl _
      | some n =>
        cases hr : st.1 n with
        | none => simp only [hr]; exact Nat.le_refl _
        | some r =>
          simp only [hr, FR.rest]
          split
          · rw [List.length_tail]; omega
          · exact Nat.le_refl _
  exact this _ _

/-- A crash, as the document has it. -/
def AS.crashed (S : AS) (ps : List Int) : AS :=
  AS.arm { AS.settled { S with names := past S (pickN ps (S.loose.length : Int)).toNat, file := ((sortedKeys (past S (pickN ps (S.loose.length : Int)).toNat)).foldl (crashStep (past S (pickN ps (S.loose.length : Int)).toNat)) (S.file, ps.tail)).1 } with on := true } (-1)

/-- What holds of each file's size. -/
def Sane (f : Int → Option FR) : Prop := ∀ n r, f n = some r → r.firm ≤ r.bytes.length ∧ r.bytes.length ≤ 16777216
theorem FR.crash_sane (r : FR) (ps : List Int) (h : r.firm ≤ r.bytes.length ∧ r.bytes.length ≤ 16777216) : (r.crash ps).firm ≤ (r.crash ps).bytes.length ∧ (r.crash ps).bytes.length ≤ 16777216 := by
  unfold FR.crash
  split
  · have := pickN_bd ps ((r.bytes.length : Int) - r.firm) (by omega)
    simp only [List.length_take]
    omega
  · simp; omega
theorem Sane.step {D : DU} {st : (Int → Option FR) × List Int} (h : Sane st.1) (l : List UInt8) : Sane (crashStep D st l).1 := by
  unfold crashStep
  cases look D l with
  | none => exact h
  | some n =>
    cases hr : st.1 n with
    | none => simp only [hr]; exact h
    | some r =>
      simp only [hr]
      intro m q hq
      by_cases e : m = n
      · subst e
        rw [upd_same] at hq
        cases hq
        exact r.crash_sane _ (h m r hr)
      · rw [upd_other _ _ e] at hq
        exact h m q hq

theorem keys_look {w : World} {b m : Nat} {D : DU} (ho : w.ownsMap Tryz.prog 9 (plainElem Tryz.prog 3) b m D) {l : List UInt8} (hl : l ∈ sortedKeys D) : ∃ n, look D l = some n ∧ l.length ≤ maxLen := by
  have hm : l ∈ strKeys D := (List.mergeSort_perm _ _).mem_iff.1 hl
  obtain ⟨es, rfl, hk⟩ := ho.keysOf
  obtain ⟨p, hp, e⟩ := List.mem_map.1 (show l ∈ es.map fun p => strOf p.1 from hm)
  obtain ⟨v, hv⟩ := hk p hp
  obtain ⟨x, _, hx, hxl⟩ := Maps.keyOf_str Tryz.underlying9 hv
  have hlx : l = x := by rw [← e, hx]; rfl
  subst hlx
  have hh : has (.map es : DU) (.string l) = true := by
    rw [has_eq, List.any_eq_true]
    exact ⟨p, hp, by rw [hx]; exact WideAt.sameKey_self (isKey l)⟩
  obtain ⟨n, hn⟩ := owns_ints ho l hh
  exact ⟨n, by unfold look; rw [hn .nil], hxl⟩

theorem crash_nil (A : Option Addr) (n c : Nat) (w : World) : Calls Tryz.prog 22 #[.pointer none, .slice A n c] w fun e w' => e = .returned (.tuple #[]) ∧ w = w' := by
  go_enter Tryz.func22, Tryz.ntmps22
  go_wp2
  exact bodyPost_ret (results_none rfl _ _ _) rfl ⟨rfl, rfl⟩

set_option maxRecDepth 100000 in
set_option maxHeartbeats 4000000 in
theorem crash_any (d : Nat) (R : Rp) (S : AS) (g : Nat) (A : Option Addr) (n c : Nat) (ps : List Int) (w : World) (h : At w d R S) (hp : PicksAt w g A n c ps) (hpg : 0 < n → ¬ foot d R S g) (hll : S.loose.length < 3000000000000) (hps : ∀ k, k ≤ S.loose.length → Maps.size (past S k) ≤ 1000000) (hch : ∀ c ∈ S.loose, c.frm.length ≤ 1000 ∧ c.to.length ≤ 1000 ∧ (Lit.int .i64 c.file).wf = true)
    (href : ∀ k, k ≤ S.loose.length → ∀ l m, look (past S k) l = some m → ∃ r, S.file m = some r) (hsane : Sane S.file) (hfwf : ∀ m r, S.file m = some r → (Lit.int .i64 m).wf = true) :
    Calls Tryz.prog 22 #[.pointer (some ⟨d, 0, none⟩), .slice A n c] w fun e w' => e = .returned (.tuple #[]) ∧ Post d R S w (S.crashed ps) w' := by
  obtain ⟨c0, c1, c2, c3, c4, c5, c6, c7, c8, c9⟩ := cells_all h
  obtain ⟨lA, lc, hlv⟩ := len_row h.loose
  rw [hlv] at c7
  have z5 := h.blk.frozen 5
  have hmm := @run_makeMap Tryz.prog
  have H := Lib.hid h
  have HP := Lib.hid hp
  have HLV := Lib.hid hlv
  have HPG := Lib.hid hpg
  have HSANE := Lib.hid hsane
  have HREF := Lib.hid href
  have HFWF := Lib.hid hfwf
  clear h hp hlv hpg hsane href hfwf
  go_enter Tryz.func22, Tryz.ntmps22
  go_wp2_with fail
  refine (pick_any g A n c ps _ _ HP.out (by omega) (by omega)).mono ?_
  rintro e w1 ⟨A1, n1, c1', k1, rfl, hw1, hp1⟩
  have P1 : PR d R S w R S w1 := by rw [hw1]; exact PR.same H.out ((Fr.refl _ _).drewN _)
  have hp1' : PicksAt w1 g A1 n1 c1' ps.tail := hp1.of fun _ => by rw [hw1]; rfl
  have hs1 : w1.heap.size = w.heap.size := by rw [hw1]; rfl
  obtain ⟨st0, st1⟩ := pickN_bd ps (S.loose.length : Int) (by omega)
  obtain ⟨stay, hstay⟩ : ∃ stay : Nat, pickN ps (S.loose.length : Int) = stay := ⟨(pickN ps (S.loose.length : Int)).toNat, by omega⟩
  rw [hstay] at st0 st1 ⊢
  have d5 := (cells_all P1.at_).2.2.2.2.2.1
  have y5 := P1.at_.blk.frozen 5
  have hdl := P1.at_.blk.lt
  have y5' : (w1.alloc (.map #[] 0)).frozen? ⟨d, 5, none⟩ = false := (P1.at_.alloc _).blk.frozen 5
  have d5' : (w1.alloc (.map #[] 0)).cell? ⟨d, 5, none⟩ = some (.map R.nm) := (cells_all (P1.at_.alloc _)).2.2.2.2.2.1
  have HP1 := Lib.hid P1
  have HPK1 := Lib.hid hp1'
  have hpk0 : PicksAt w g A1 n1 c1' ps.tail := hp1
  have hg0 : 0 < ps.tail.length → g < w.heap.size ∧ ¬ foot d R S g := fun hn => by
    have h0 : 0 < n := by have := HP.out.len; rw [List.length_tail] at hn; omega
    exact ⟨HP.out.lt h0, HPG.out h0⟩
  have HG0 := Lib.hid hg0
  have HPK0 := Lib.hid hpk0
  clear hpk0 hg0
  have HST := Lib.hid hstay
  clear hw1 hp1 hp1' P1 c0 c1 c2 c3 c4 c5 c6 c7 c8 c9 z5 hstay
  obtain ⟨w2, hw2⟩ : ∃ w2, (w1.alloc (.map #[] 0)).setCell ⟨d, 5, none⟩ (.map (some w.heap.size)) = w2 := ⟨_, rfl⟩
  have P2 : PR d R S w { R with nm := some w.heap.size } { S with names := .map [] } w2 := by
    refine HP1.out.trans (PR.fresh HP1.out.at_ ?_ ?_ ?_ (by omega))
    · rw [← hw2]; exact ((Fr.refl _ _).alloc _).set1 5 _
    · rw [← hw2]
      exact (Blk.of HP1.out.at_.blk (Below.heap_alloc _ _ d hdl)).set_ 5 _
    · rw [← hw2]
      have q := World.ownsMap_made (H := Unit) w1 Tryz.prog 9 (plainElem Tryz.prog 3)
      rw [hs1] at q
      exact q.setCell (by have := H.out.blk.lt; simp; omega) _
  have h2 := P2.at_
  have e5 := (cells_all h2).2.2.2.2.2.1
  have e6 := (cells_all h2).2.2.2.2.2.2.1
  have hnm2 : w2.ownsMap Tryz.prog 9 (plainElem Tryz.prog 3) w.heap.size 0 (.map [] : DU) := h2.names
  have hcopy := copy_new (plainElem Tryz.prog 3) w.heap.size R.fm S.firm w2.drew hnm2 h2.firm (fun e => by have := h2.ne1 w.heap.size rfl; exact this e) (by have := hps 0 (Nat.zero_le _); rw [past_zero] at this; unfold maxLen; omega)
  have HP2 := Lib.hid P2
  have HCP := Lib.hid hcopy
  clear P2 h2 hnm2 hcopy
  go_wp2_with fail
  go_still_tail 8, (by kernel_rfl)
  change wpList _ _ _ _ _ (World.drew _)
  go_wp2_with fail
  refine HCP.out.mono ?_
  rintro e w3 ⟨rfl, ho3, hg3⟩
  have P3 : PR d R S w { R with nm := some w.heap.size } { S with names := past S 0 } w3 :=
    HP2.out.trans (PR.named (D := S.firm) HP2.out.at_ rfl (((Fr.refl _ w2).drew).grown hg3 (fun k hk _ => by cases hk; rfl)) ho3)
  have q7 := (cells_all P3.at_).2.2.2.2.2.2.2.1
  have q7' : w3.cell? ⟨d, 7, none⟩ = some (.slice lA S.loose.length lc) := by rw [q7]; exact congrArg some HLV.out
  have hcap : S.loose.length ≤ lc ∧ (0 < S.loose.length → ∃ gl, lA = some ⟨gl, 0, none⟩) := by
    have := H.out.loose
    rw [HLV.out] at this
    rcases this.2 with ⟨e, h0⟩ | ⟨gl, cap, cur, e, _, _, hn, _⟩
    · exact ⟨by omega, fun h => by omega⟩
    · cases e; exact ⟨hn, fun _ => ⟨gl, rfl⟩⟩
  have hcap1 := hcap.1
  have hs3 : (stay : Int) ≤ (lc : Int) := by omega
  have HP3 := Lib.hid P3
  have HCAP := Lib.hid hcap
  clear hg3 ho3 P3 q7 hcap HP2 HCP e5 e6 hw2 HP1
  go_wp2_with fail
  go_loopw [6, 41] (fun _ i wr => ∃ k : Nat, k ≤ stay ∧ i = .int .i64 k ∧ PR d R S w { R with nm := some w.heap.size } { S with names := past S k } wr) (fun _ i _ => stay - (intOf i).toNat)
  case atStart => exact ⟨0, Nat.zero_le _, rfl, HP3.out⟩
  case round =>
    obtain ⟨k, hk, rfl, P⟩ := hrel
    by_cases hlt : k < stay
    · obtain ⟨gl, rfl⟩ := HCAP.out.2 (by omega)
      have hkl : k < S.loose.length := by omega
      have hlo := P.at_.loose
      have hlo' : wr.ownsRow 0 114 3 (.slice (some ⟨gl, 0, none⟩) S.loose.length lc) S.loose.length (S.loose.flatMap Ch.cells) := by
        have e : ({ R with nm := some w.heap.size } : Rp).lv = _ := HLV.out
        rw [e] at hlo; exact hlo
      obtain ⟨gl', e', _, m0, m1, m2⟩ := loose_at hlo' hkl
      cases e'
      obtain ⟨w4, hw4⟩ : ∃ w4, wr.alloc (.cells #[.string ⟨(S.loose[k]).frm.toArray⟩, .string ⟨(S.loose[k]).to.toArray⟩, .int .i64 (S.loose[k]).file] 114) = w4 := ⟨_, rfl⟩
      have f4 : Fr No wr w4 := by rw [← hw4]; exact (Fr.refl _ wr).alloc _
      have P4 := P.trans (PR.same P.at_ f4)
      have hbk : Blk w4 wr.heap.size 114 #[.string ⟨(S.loose[k]).frm.toArray⟩, .string ⟨(S.loose[k]).to.toArray⟩, .int .i64 (S.loose[k]).file] := by rw [← hw4]; exact Blk.new wr 114 _
      have n0 : w4.cell? ⟨wr.heap.size, 0, none⟩ = some (.string ⟨(S.loose[k]).frm.toArray⟩) := hbk.cell 0
      have n1 : w4.cell? ⟨wr.heap.size, 1, none⟩ = some (.string ⟨(S.loose[k]).to.toArray⟩) := hbk.cell 1
      have n2 : w4.cell? ⟨wr.heap.size, 2, none⟩ = some (.int .i64 (S.loose[k]).file) := hbk.cell 2
      have p5 : w4.cell? ⟨d, 5, none⟩ = some (.map (some w.heap.size)) := (cells_all P4.at_).2.2.2.2.2.1
      have hown4 : w4.ownsMap Tryz.prog 9 (plainElem Tryz.prog 3) w.heap.size (Maps.size (past S k)) (past S k) := P4.at_.names
      have hc := hch (S.loose[k]) (List.getElem_mem hkl)
      have happ := apply_any (S.loose[k]) w.heap.size _ (past S k) _ (World.ownsMap.drew hown4) (by have := hc.1; unfold maxLen; omega) (by have := hc.2.1; unfold maxLen; omega) (by have := hps k (by omega); unfold maxLen; omega) hc.2.2
      have HA := Lib.hid happ
      have HP4 := Lib.hid P4
      clear P hlo hlo' HP3 f4 P4 hbk hown4 hc happ
      go_wp2_with fail
      clear hw4
      go_still_tail 5, (by kernel_rfl)
      change wpList _ _ _ _ _ (World.drew _)
      go_wp2_with fail
      refine HA.out.mono ?_
      rintro e w5 ⟨rfl, ho5, hf5⟩
      have P5 : PR d R S w { R with nm := some w.heap.size } { S with names := past S (k + 1) } w5 := by
        rw [past_succ S k hkl]
        exact HP4.out.trans (PR.named (D := (S.loose[k]).app (past S k)) HP4.out.at_ rfl ⟨hf5.os, hf5.tape, hf5.output, hf5.size, hf5.block⟩ ho5)
      have HP5 := Lib.hid P5
      clear ho5 hf5 P5 HP4 HA
      go_wp2
      go_roundw
      case rel => exact ⟨k + 1, by omega, by go_num, HP5.out⟩
      case measure => simp [intOf]; omega
    · obtain rfl : k = stay := by omega
      have p5 := (cells_all P.at_).2.2.2.2.2.1
      have p5' : wr.cell? ⟨d, 5, none⟩ = some (.map (some w.heap.size)) := p5
      have hnms : wr.ownsMap Tryz.prog 9 (plainElem Tryz.prog 3) w.heap.size (Maps.size (past S k)) (past S k) := P.at_.names
      have hsz := hps k (by omega)
      have hsrt := sorted_any w.heap.size _ (past S k) (plainElem Tryz.prog 3) wr hnms (by unfold maxLen; omega) (by omega)
      have HS := Lib.hid hsrt
      have HPP := Lib.hid P
      have HNM := Lib.hid hnms
      clear P p5 hnms hsrt HP3 hs3 q7' hmm
      go_wp2_with fail
      refine HS.out.mono ?_
      rintro e w6 ⟨v, ss, rfl, hperm, hrow, hnil, hb6⟩
      have P6 := HPP.out.trans (PR.same HPP.out.at_ (Fr.of_below hb6))
      have hkeys : ss.mergeSort (fun x y => decide (x ≤ y)) = sortedKeys (past S k) := mergeSort_of_perm hperm
      have hlen : ss.length = (sortedKeys (past S k)).length := by rw [← hkeys, List.length_mergeSort]
      rw [hkeys] at hrow
      obtain ⟨kA, kc, rfl⟩ := len_row hrow
      rw [hlen] at hrow ⊢
      have hkrow : w6.ownsRow 0 9 1 (.slice kA (sortedKeys (past S k)).length kc) (sortedKeys (past S k)).length ((sortedKeys (past S k)).map encStr) := own_base hrow (Nat.zero_le _)
      have hkmax : (sortedKeys (past S k)).length ≤ 1000000 := by
        unfold sortedKeys
        rw [List.length_mergeSort]
        have : (strKeys (past S k)).length = Maps.size (past S k) := by
          obtain ⟨es, he⟩ := HNM.out.isMap
          rw [he]; simp [strKeys, Maps.size]
        omega
      have HK := Lib.hid hkrow
      have HP6 := Lib.hid P6
      clear hperm hrow hnil hb6 P6 hkeys hlen hkrow HS
      go_wp2_with fail
      go_loopw [1, 58] (fun pv iv wz => ∃ (i : Nat) (R2 : Rp) (A2 : Option Addr) (n2 c2 : Nat), i ≤ (sortedKeys (past S k)).length ∧ iv = .int .i64 i ∧ pv = .slice A2 n2 c2 ∧ PicksAt wz g A2 n2 c2 (crashTo (past S k) S.file ps.tail i).2 ∧
          PR d R S w R2 { S with names := past S k, file := (crashTo (past S k) S.file ps.tail i).1 } wz ∧ R2.nm = some w.heap.size ∧ wz.ownsRow 0 9 1 (.slice kA (sortedKeys (past S k)).length kc) (sortedKeys (past S k)).length ((sortedKeys (past S k)).map encStr) ∧ Sane (crashTo (past S k) S.file ps.tail i).1)
        (fun _ iv _ => (sortedKeys (past S k)).length - (intOf iv).toNat)
      case atStart =>
        have hpk6 : PicksAt w6 g A1 n1 c1' ps.tail := HPK0.out.fr HP6.out.fr fun hn => (HG0.out (by have := HPK0.out.len; omega)).2
        exact ⟨0, _, A1, n1, c1', Nat.zero_le _, rfl, rfl, hpk6, HP6.out, rfl, HK.out, HSANE.out⟩
      case round =>
        obtain ⟨i, R2, A2, n2, c2, hi, rfl, rfl, hpk, P, hnm2, hkr, hsn⟩ := hrel
        by_cases hil : i < (sortedKeys (past S k)).length
        · obtain ⟨cn, hcn, hcl⟩ := keys_look HNM.out (List.getElem_mem hil)
          obtain ⟨r0, hr0⟩ := HREF.out k (by omega) _ _ hcn
          have hcw := HFWF.out cn r0 hr0
          have his := crashTo_isSome (past S k) S.file ps.tail cn i
          rw [hr0] at his
          obtain ⟨r, hr⟩ := Option.isSome_iff_exists.1 his
          have hr' : ({ S with names := past S k, file := (crashTo (past S k) S.file ps.tail i).1 } : AS).file cn = some r := hr
          obtain ⟨fb, hfb⟩ := P.at_.fbs hr'
          have hfl := P.at_.files
          rw [hfb] at hfl
          have hfd := P.at_.fd cn
          rw [hr'] at hfd
          obtain ⟨hfa, hfbk, hfo⟩ := hfd
          have hdr : At wr.drew d R2 { S with names := past S k, file := (crashTo (past S k) S.file ps.tail i).1 } := P.at_.keep (Fr.refl _ wr).drew
          have hflz := hdr.files
          rw [hfb] at hflz
          have hnmz := hdr.names
          rw [hnm2] at hnmz
          have hrunA := run_look1_some (b := w.heap.size) hnmz hcl hcn
          have hrunB := run_file (b := fb) hflz hcw hfa
          have z5 := (cells_all P.at_).2.2.2.2.2.1
          rw [hnm2] at z5
          have z8 := (cells_all P.at_).2.2.2.2.2.2.2.2.1
          rw [hfb] at z8
          obtain ⟨gk, hgk⟩ : ∃ gk, kA = some ⟨gk, 0, none⟩ ∧ (sortedKeys (past S k)).length ≤ kc := by
            rcases hkr.2 with ⟨_, h0⟩ | ⟨gk, cap, cur, e, _, _, hn, _⟩
            · omega
            · cases e; exact ⟨gk, rfl, hn⟩
          obtain ⟨rfl, hkc⟩ := hgk
          have hkcell : wr.cell? ⟨gk, i, none⟩ = some (.string ⟨((sortedKeys (past S k))[i]).toArray⟩) := by
            have := hkr.cells (g := gk) rfl i (encStr ((sortedKeys (past S k))[i])) (by simp [List.getElem?_eq_getElem hil])
            have add : ((⟨gk, 0, none⟩ : Addr).add i) = ⟨gk, i, none⟩ := by unfold Addr.add; split <;> simp_all
            rw [add] at this
            exact this
          have hsr := hsn cn r hr
          have hfc := fcrash_any (R2.rc cn).1 (R2.rc cn).2 r g A2 n2 c2 (crashTo (past S k) S.file ps.tail i).2 wr.drew hfbk hfo hsr.2 hsr.1 (hpk.of fun _ => rfl) (fun hn => by
            intro e
            have hl := crashTo_len (past S k) S.file ps.tail i
            have := HG0.out (by have := hpk.len; omega)
            rcases P.foot (R2.rc cn).1 (.inr (.inr (.inr (.inr (.inr ⟨cn, r, hr', .inl rfl⟩))))) with hf | hf
            · exact this.2 (e ▸ hf)
            · omega)
          have HFC := Lib.hid hfc
          have HPP2 := Lib.hid P
          have HKR := Lib.hid hkr
          have HSN := Lib.hid hsn
          have HR := Lib.hid hr
          have HR' := Lib.hid hr'
          have HCN := Lib.hid hcn
          have HNM2 := Lib.hid hnm2
          have HFO := Lib.hid hfo
          have HFBK := Lib.hid hfbk
          clear hfc P hkr hsn hr hr' hcn hnm2 hfo hfbk hfa hfl hflz hnmz hdr his hr0 hpk HK HP6 HPK0 HSANE HNM HREF HFWF
          go_wp2_with fail
          go_still_tail 12, (by kernel_rfl)
          change wpList _ _ _ _ _ (World.drew _)
          go_wp2_with fail
          refine HFC.out.mono ?_
          rintro e w7 ⟨A3, n3, c3, v3, rfl, hpk3, hf3, hb3, ho3, hv3⟩
          have P7 := HPP2.out.trans (PR.file (r' := r.crash (crashTo (past S k) S.file ps.tail i).2) HPP2.out.at_ HR'.out
            (Fr.mono (F := One (R2.rc cn).1) ⟨hf3.os, hf3.tape, hf3.output, hf3.size, hf3.block⟩ (fun k _ hk => .inl hk)) hb3 ho3 fun k hk => .inl (hv3 ▸ hk))
          have hstep : crashTo (past S k) S.file ps.tail (i + 1) = (upd (crashTo (past S k) S.file ps.tail i).1 cn (some (r.crash (crashTo (past S k) S.file ps.tail i).2)), r.rest (crashTo (past S k) S.file ps.tail i).2) := by
            rw [crashTo_succ _ _ _ i hil, crashStep_some HCN.out HR.out]
          have hsn7 : Sane (crashTo (past S k) S.file ps.tail (i + 1)).1 := by rw [crashTo_succ _ _ _ i hil]; exact HSN.out.step _
          have hkr7 : w7.ownsRow 0 9 1 (.slice (some ⟨gk, 0, none⟩) (sortedKeys (past S k)).length kc) (sortedKeys (past S k)).length ((sortedKeys (past S k)).map encStr) :=
            own_of HKR.out fun j hj => hf3.block j ((HKR.out.lt j hj).2) (own_blk_ne HKR.out hj HFBK.out (by decide))
          have HP7 := Lib.hid P7
          have HSTEP := Lib.hid hstep
          have HSN7 := Lib.hid hsn7
          have HKR7 := Lib.hid hkr7
          have HPK3 := Lib.hid hpk3
          clear P7 hstep hsn7 hkr7 hpk3 hf3 hb3 ho3 hv3 HPP2 HSN HKR HFBK HFO HFC
          go_wp2
          go_roundw
          case rel =>
            have hst := HSTEP.out
            refine ⟨i + 1, { R2 with rc := upd R2.rc cn ((R2.rc cn).1, v3) }, A3, n3, c3, by omega, by go_num, rfl, ?_, ?_, HNM2.out, HKR7.out, HSN7.out⟩
            · rw [hst]; exact HPK3.out
            · rw [hst]; exact HP7.out
          case measure => simp [intOf]; omega
        · obtain rfl : i = (sortedKeys (past S k)).length := by omega
          have hend : crashTo (past S k) S.file ps.tail (sortedKeys (past S k)).length = (sortedKeys (past S k)).foldl (crashStep (past S k)) (S.file, ps.tail) := by
            unfold crashTo; rw [List.take_length]
          have hrf : ∀ l n, look (past S k) l = some n → ∃ r, (crashTo (past S k) S.file ps.tail (sortedKeys (past S k)).length).1 n = some r := fun l n hln => by
            obtain ⟨r, hr⟩ := HREF.out k (by omega) l n hln
            have his := crashTo_isSome (past S k) S.file ps.tail n (sortedKeys (past S k)).length
            rw [hr] at his
            exact Option.isSome_iff_exists.1 his
          have hset := settle_any d R2 _ w.heap.size wr P.at_ hrf hnm2 hsz
          have HSET := Lib.hid hset
          have HPP := Lib.hid P
          clear hset P hnm2 hkr hsn hpk hrf hend
          go_wp2_with fail
          refine HSET.out.mono ?_
          rintro e w8 ⟨rfl, R8, P8, nb8, fb8, hnb8, hfb8⟩
          have P9 := HPP.out.trans P8
          have x1 := (cells_all P9.at_).2.1
          have y1 := P9.at_.blk.frozen 1
          have HP9 := Lib.hid P9
          clear P8 P9 HSET HPP
          go_wp2_with fail
          have P10 := HP9.out.trans (PR.own (S' := { AS.settled { S with names := past S k, file := (crashTo (past S k) S.file ps.tail (sortedKeys (past S k)).length).1 } with on := true })
            (HP9.out.at_.own (Fr.set0 d w8 1 (.bool true)) (HP9.out.at_.blk.set_ 1 _) rfl rfl rfl rfl (fun _ => ⟨nb8, fb8, hnb8, hfb8⟩)) (Fr.set0 d w8 1 (.bool true)) rfl)
          refine (arm_any d R8 _ (-1) _ P10.at_).mono ?_
          rintro e w9 ⟨rfl, h9, f9⟩
          have P11 := P10.trans (PR.own h9 f9 rfl)
          have HP11 := Lib.hid P11
          have hst := HST.out
          clear h9 f9 P10 P11
          go_wp2
          go_end0
          refine ⟨rfl, R8, ?_⟩
          have hk : (pickN ps (S.loose.length : Int)).toNat = k := by omega
          have hend : crashTo (past S k) S.file ps.tail (sortedKeys (past S k)).length = (sortedKeys (past S k)).foldl (crashStep (past S k)) (S.file, ps.tail) := by
            unfold crashTo; rw [List.take_length]
          have := HP11.out
          rw [hend] at this
          unfold AS.crashed
          rw [hk]
          exact this

end Go.Proofs.YtoaiofjcjjkfaaaGreatDoor
/- Settle, Rename, Remove, List, New: by contract. -/
namespace Go.Proofs.YtoaiofjcjjkfaaaGreatDoor
open Go.RowKit Go.Maps Go.Sort
set_option linter.unusedVariables false

set_option maxHeartbeats 400000 in
theorem check_zero (d : Nat) (w : World) (hon : w.cell? ⟨d, 1, none⟩ = some (.bool true)) :
    Calls Tryz.prog 165 #[.pointer (some ⟨d, 0, none⟩), .slice none 0 0] w fun e w' => e = .returned (.int .i64 0) ∧ w = w' := by
  go_enter Tryz.func165, Tryz.ntmps165
  go_wp2
  refine wp_loop_rounds 1 ?_
  rw [rounds_succ]
  go_wp2
  go_ret
  exact ⟨rfl, rfl⟩

/-! ### Settle -/
set_option maxHeartbeats 400000 in
theorem settle_off (d : Nat) (w : World) (hon : w.cell? ⟨d, 1, none⟩ = some (.bool false)) :
    Calls Tryz.prog 113 #[.pointer (some ⟨d, 0, none⟩)] w fun e w' => e = .returned (.int .i64 13) ∧ w = w' := by
  have hcon := check_off d (.bool true) 0 0 none w hon
  clear hon
  go_enter Tryz.func113, Tryz.ntmps113
  go_wp2_with fail
  refine hcon.mono ?_
  rintro e w' ⟨rfl, rfl⟩
  go_wp2
  go_ret
  exact ⟨rfl, rfl⟩

set_option maxHeartbeats 400000 in
theorem settle_out (d : Nat) (R : Rp) (S : AS) (w : World) (h : At w d R S) (hl : S.left ≤ 9223372036854775807) (hon : S.on = true) (he : S.stepE = 13) :
    Calls Tryz.prog 113 #[.pointer (some ⟨d, 0, none⟩)] w fun e w' => e = .returned (.int .i64 13) ∧ PR d R S w R S.step w' := by
  have c1 := (cells_all h).2.1
  rw [hon] at c1
  have hcon := check_zero d w c1
  have hst := step_ok d R S w h hl 13 he
  clear c1 hon he
  go_enter Tryz.func113, Tryz.ntmps113
  go_wp2_with fail
  refine hcon.mono ?_
  rintro e w' ⟨rfl, rfl⟩
  go_wp2_with fail
  refine hst.mono ?_
  rintro e w2 ⟨rfl, h2, f2⟩
  have P2 := (PR.own h2 f2 (step_same S).2.2.2.1 : PR d R S w R S.step w2)
  clear h2 f2 hst hcon h
  go_wp2
  go_ret
  exact ⟨rfl, P2⟩

set_option maxHeartbeats 400000 in
theorem settle_ok (d : Nat) (R : Rp) (S : AS) (w : World) (h : At w d R S) (hW : WF S) (hsz : Maps.size S.names ≤ 1000000) (hon : S.on = true) (he : S.stepE = 0) :
    Calls Tryz.prog 113 #[.pointer (some ⟨d, 0, none⟩)] w fun e w' => e = .returned (.int .i64 0) ∧ Post d R S w S.step.settled w' := by
  have c1 := (cells_all h).2.1
  rw [hon] at c1
  have hcon := check_zero d w c1
  have hst := step_ok d R S w h hW.left.2 0 he
  obtain ⟨nb, fb, e1, e2⟩ := h.onn hon
  have hset := fun w2 (h2 : At w2 d R S.step) => settle_any d R S.step nb w2 h2 (by rw [(step_same S).1, (step_same S).2.2.2.1]; exact hW.ref) e1 (by rw [(step_same S).1]; exact hsz)
  have HSET := Lib.hid hset
  clear c1 hon he hset e1 e2 hsz hW
  go_enter Tryz.func113, Tryz.ntmps113
  go_wp2_with fail
  refine hcon.mono ?_
  rintro e w' ⟨rfl, rfl⟩
  go_wp2_with fail
  refine hst.mono ?_
  rintro e w2 ⟨rfl, h2, f2⟩
  have P2 := (PR.own h2 f2 (step_same S).2.2.2.1 : PR d R S w R S.step w2)
  have HP2 := Lib.hid P2
  clear h2 f2 hst hcon h P2
  go_wp2_with fail
  refine (HSET.out w2 HP2.out.at_).mono ?_
  rintro e w3 ⟨rfl, R3, P3, hx⟩
  have P4 := HP2.out.trans P3
  clear P3 hx HSET HP2
  go_wp2
  go_ret
  exact ⟨rfl, R3, P4⟩

/-! ### Remove -/
def AS.removed (S : AS) (l : List UInt8) : AS := S.altered { frm := l, to := [], file := 0 }

set_option maxHeartbeats 400000 in
theorem remove_err (d : Nat) (l : List UInt8) (v : Option Addr) (E : Int) (w : World) (hE : E ≠ 0)
    (hfind : Calls Tryz.prog 131 #[.pointer (some ⟨d, 0, none⟩), .string ⟨l.toArray⟩] w fun e w' => e = .returned (.tuple #[.pointer v, .int .i64 E]) ∧ Fr No w w') :
    Calls Tryz.prog 164 #[.pointer (some ⟨d, 0, none⟩), .string ⟨l.toArray⟩] w fun e w' => e = .returned (.int .i64 E) ∧ Fr No w w' := by
  have hne2 : (E != 0) = true := by simpa using hE
  go_enter Tryz.func164, Tryz.ntmps164
  go_wp2_with fail
  refine hfind.mono ?_
  rintro e w' ⟨rfl, hf⟩
  have HF := Lib.hid hf; clear hf hfind
  go_wp2
  go_ret
  exact ⟨rfl, HF.out⟩

set_option maxHeartbeats 400000 in
theorem remove_some (d : Nat) (R : Rp) (S : AS) (l : List UInt8) (n : Int) (r : FR) (w : World) (h : At w d R S) (hW : WF S) (hl : l.length ≤ maxLen) (hE : checkOf S.on [l] = 0) (hn : look S.names l = some n) (hr : S.file n = some r) (hsz : Maps.size S.names ≤ 1000000) (hll : S.loose.length < 3000000000000) :
    Calls Tryz.prog 164 #[.pointer (some ⟨d, 0, none⟩), .string ⟨l.toArray⟩] w fun e w' => e = .returned (.int .i64 (S.removed l).stepE) ∧ Post d R S w (S.removed l).step w' := by
  have hcon := find_some d R S l n r w h hl hE hn hr (hW.wf hr)
  obtain ⟨nb, fb, e1, e2⟩ := h.onn (on_of hE)
  have hal := fun w1 (h1 : At w1 d R S) => alter_any d R S { frm := l, to := [], file := 0 } nb w1 h1 e1 hl (by simp [maxLen]) (by unfold maxLen; omega) (show (Lit.int .i64 0).wf = true by decide) hll
  have hst := fun R' w2 (h2 : At w2 d R' (S.removed l)) => step_any d R' (S.removed l) w2 h2 hW.left.2
  have HAL := Lib.hid hal
  have HST := Lib.hid hst
  clear hal hst hE hn hr hW hsz hll hl e1 e2
  go_enter Tryz.func164, Tryz.ntmps164
  go_wp2_with fail
  refine hcon.mono ?_
  rintro e w1 ⟨rfl, hf⟩
  have P1 := PR.same h hf
  clear hcon h hf
  go_wp2_with fail
  refine (HAL.out w1 P1.at_).mono ?_
  rintro e w2 ⟨rfl, R2, P2⟩
  have P3 := P1.trans P2
  clear P1 P2 HAL
  go_wp2_with fail
  refine (HST.out R2 w2 P3.at_).mono ?_
  rintro e w3 ⟨rfl, h3, f3⟩
  have P4 := P3.trans (PR.own h3 f3 (step_same _).2.2.2.1)
  clear P3 h3 f3 HST
  go_wp2
  go_ret
  exact ⟨rfl, R2, P4⟩

/-! ### List -/
theorem list_nil (w : World) : Calls Tryz.prog 74 #[.pointer none] w fun e w' => e = .returned (.slice none 0 0) ∧ w = w' := by
  go_enter Tryz.func74, Tryz.ntmps74
  go_wp2_with (go_at_call 60; refine (on_nil _).mono ?_; rintro e w' ⟨rfl, rfl⟩)
  go_ret
  exact ⟨rfl, rfl⟩
theorem list_off (d : Nat) (R : Rp) (S : AS) (w : World) (h : At w d R S) (hon : S.on = false) : Calls Tryz.prog 74 #[.pointer (some ⟨d, 0, none⟩)] w fun e w' => e = .returned (.slice none 0 0) ∧ w = w' := by
  have hcon := on_any d R S w h
  rw [hon] at hcon
  clear h hon
  go_enter Tryz.func74, Tryz.ntmps74
  go_wp2_with (go_at_call 60; refine hcon.mono ?_; rintro e w' ⟨rfl, rfl⟩)
  go_ret
  exact ⟨rfl, rfl⟩
set_option maxHeartbeats 400000 in
theorem list_on (d : Nat) (R : Rp) (S : AS) (w : World) (h : At w d R S) (hon : S.on = true) (hsz : Maps.size S.names ≤ 1000000) :
    Calls Tryz.prog 74 #[.pointer (some ⟨d, 0, none⟩)] w fun e w' => ∃ A c, e = .returned (.slice A (sortedKeys S.names).length c) ∧ w'.ownsRow w.heap.size 9 1 (.slice A (sortedKeys S.names).length c) (sortedKeys S.names).length ((sortedKeys S.names).map encStr) ∧ Fr No w w' := by
  have hcon := on_any d R S w h
  rw [hon] at hcon
  obtain ⟨nb, fb, e1, e2⟩ := h.onn hon
  have c5 := (cells_all h).2.2.2.2.2.1
  rw [e1] at c5
  have hnm := h.names
  rw [e1] at hnm
  have hs := sorted_any nb _ S.names (plainElem Tryz.prog 3) w hnm (by unfold maxLen; omega) (by omega)
  have HS := Lib.hid hs
  clear h hon hsz e1 e2 hnm hs
  go_enter Tryz.func74, Tryz.ntmps74
  go_wp2_with (go_at_call 60; refine hcon.mono ?_; rintro e w' ⟨rfl, rfl⟩)
  refine HS.out.mono ?_
  rintro e w2 ⟨v, ss, rfl, hperm, hrow, hnil, hb⟩
  have hkeys : ss.mergeSort (fun x y => decide (x ≤ y)) = sortedKeys S.names := mergeSort_of_perm hperm
  have hlen : ss.length = (sortedKeys S.names).length := by rw [← hkeys, List.length_mergeSort]
  rw [hkeys, hlen] at hrow
  obtain ⟨A, c, rfl⟩ := len_row hrow
  have HR := Lib.hid hrow
  have HB := Lib.hid hb
  clear hperm hrow hnil hb hkeys hlen HS hcon c5
  go_wp2
  go_ret
  exact ⟨A, c, rfl, HR.out, Fr.of_below HB.out⟩


/-! ### Rename -/
def AS.renamed (S : AS) (a b : List UInt8) (n : Int) : AS := S.altered { frm := a, to := b, file := n }

theorem check_new2 (d : Nat) (R : Rp) (S : AS) (a b : List UInt8) (E : Int) (w : World) (h : At w d R S) (hE : checkOf S.on [a, b] = E) (ha : a.length ≤ maxLen) (hb : b.length ≤ maxLen) :
    Calls Tryz.prog 165 #[.pointer (some ⟨d, 0, none⟩), .slice (some ⟨w.heap.size, 0, none⟩) 2 2] (w.alloc (.cells #[.string ⟨a.toArray⟩, .string ⟨b.toArray⟩] 9)) fun e w' => e = .returned (.int .i64 E) ∧ w.alloc (.cells #[.string ⟨a.toArray⟩, .string ⟨b.toArray⟩] 9) = w' := by
  refine (check_two d w.heap.size ⟨a.toArray⟩ ⟨b.toArray⟩ _ S.on (cells_all (h.alloc _)).2.1 (by simpa [ByteArray.size] using ha) (by simpa [ByteArray.size] using hb) (by simp) (by simp)).mono ?_
  rintro e w' ⟨he, hw⟩
  exact ⟨by rw [he, ← hE], hw⟩

set_option maxHeartbeats 400000 in
theorem rename_bad (d : Nat) (R : Rp) (S : AS) (a b : List UInt8) (E : Int) (w : World) (h : At w d R S) (ha : a.length ≤ maxLen) (hb : b.length ≤ maxLen) (hE : checkOf S.on [a, b] = E) (hne : E ≠ 0) :
    Calls Tryz.prog 118 #[.pointer (some ⟨d, 0, none⟩), .string ⟨a.toArray⟩, .string ⟨b.toArray⟩] w fun e w' => e = .returned (.int .i64 E) ∧ Fr No w w' := by
  have hne2 : (E != 0) = true := by simpa using hne
  have hcon := check_new2 d R S a b E w h hE ha hb
  clear hE hne ha hb h
  go_enter Tryz.func118, Tryz.ntmps118
  go_wp2_with fail
  refine hcon.mono ?_
  rintro e w' ⟨rfl, rfl⟩
  go_wp2
  go_ret
  exact ⟨rfl, (Fr.refl _ _).alloc _⟩

set_option maxHeartbeats 400000 in
theorem rename_none (d : Nat) (R : Rp) (S : AS) (a b : List UInt8) (w : World) (h : At w d R S) (ha : a.length ≤ maxLen) (hb : b.length ≤ maxLen) (hE : checkOf S.on [a, b] = 0) (hn : look S.names a = none) :
    Calls Tryz.prog 118 #[.pointer (some ⟨d, 0, none⟩), .string ⟨a.toArray⟩, .string ⟨b.toArray⟩] w fun e w' => e = .returned (.int .i64 11) ∧ Fr No w w' := by
  have hcon := check_new2 d R S a b 0 w h hE ha hb
  obtain ⟨nb, fb, e1, e2⟩ := h.onn (on_of hE)
  have h1 := h.alloc (.cells #[.string ⟨a.toArray⟩, .string ⟨b.toArray⟩] 9)
  have hnm := h1.names
  rw [e1] at hnm
  have hrun := run_look_none (b := nb) hnm ha hn
  have c5 := (cells_all h1).2.2.2.2.2.1
  rw [e1] at c5
  clear hE ha hb h h1 hnm hn e1 e2
  go_enter Tryz.func118, Tryz.ntmps118
  go_wp2_with fail
  refine hcon.mono ?_
  rintro e w' ⟨rfl, rfl⟩
  go_wp2
  go_ret
  exact ⟨rfl, (Fr.refl _ _).alloc _⟩

set_option maxHeartbeats 400000 in
theorem rename_same (d : Nat) (R : Rp) (S : AS) (a : List UInt8) (n : Int) (w : World) (h : At w d R S) (hW : WF S) (ha : a.length ≤ maxLen) (hE : checkOf S.on [a, a] = 0) (hn : look S.names a = some n) :
    Calls Tryz.prog 118 #[.pointer (some ⟨d, 0, none⟩), .string ⟨a.toArray⟩, .string ⟨a.toArray⟩] w fun e w' => e = .returned (.int .i64 S.stepE) ∧ PR d R S w R S.step w' := by
  have hcon := check_new2 d R S a a 0 w h hE ha ha
  obtain ⟨nb, fb, e1, e2⟩ := h.onn (on_of hE)
  have h1 := h.alloc (.cells #[.string ⟨a.toArray⟩, .string ⟨a.toArray⟩] 9)
  have P1 : PR d R S w R S _ := PR.same h ((Fr.refl _ w).alloc (.cells #[.string ⟨a.toArray⟩, .string ⟨a.toArray⟩] 9))
  have hnm := h1.names
  rw [e1] at hnm
  have hrun := run_look_some (b := nb) hnm ha hn
  have c5 := (cells_all h1).2.2.2.2.2.1
  rw [e1] at c5
  have hst := step_any d R S _ h1 hW.left.2
  have HST := Lib.hid hst
  have HP1 := Lib.hid P1
  clear hE ha h h1 hnm hn e1 e2 hst P1 hW
  go_enter Tryz.func118, Tryz.ntmps118
  go_wp2_with fail
  refine hcon.mono ?_
  rintro e w' ⟨rfl, rfl⟩
  go_wp2_with fail
  refine HST.out.mono ?_
  rintro e w3 ⟨rfl, h3, f3⟩
  have P3 := HP1.out.trans (PR.own h3 f3 (step_same _).2.2.2.1)
  have HP3 := Lib.hid P3
  clear h3 f3 HST P3 HP1
  go_wp2
  go_ret
  exact ⟨rfl, HP3.out⟩

set_option maxHeartbeats 400000 in
theorem rename_other (d : Nat) (R : Rp) (S : AS) (a b : List UInt8) (n : Int) (r : FR) (w : World) (h : At w d R S) (hW : WF S) (ha : a.length ≤ maxLen) (hb : b.length ≤ maxLen) (hab : a ≠ b) (hE : checkOf S.on [a, b] = 0) (hn : look S.names a = some n) (hr : S.file n = some r)
    (hsz : Maps.size S.names ≤ 1000000) (hll : S.loose.length < 3000000000000) :
    Calls Tryz.prog 118 #[.pointer (some ⟨d, 0, none⟩), .string ⟨a.toArray⟩, .string ⟨b.toArray⟩] w fun e w' => e = .returned (.int .i64 (S.renamed a b n).stepE) ∧ Post d R S w (S.renamed a b n).step w' := by
  have hcon := check_new2 d R S a b 0 w h hE ha hb
  obtain ⟨nb, fb, e1, e2⟩ := h.onn (on_of hE)
  have h1 := h.alloc (.cells #[.string ⟨a.toArray⟩, .string ⟨b.toArray⟩] 9)
  have P1 : PR d R S w R S _ := PR.same h ((Fr.refl _ w).alloc (.cells #[.string ⟨a.toArray⟩, .string ⟨b.toArray⟩] 9))
  have hnm := h1.names
  rw [e1] at hnm
  have hrun := run_look_some (b := nb) hnm ha hn
  have c5 := (cells_all h1).2.2.2.2.2.1
  rw [e1] at c5
  have hne : (a == b) = false := by simpa using hab
  have hal := alter_any d R S { frm := a, to := b, file := n } nb _ h1 e1 ha hb (by unfold maxLen; omega) (hW.wf hr) hll
  have hst := fun R' w2 (h2 : At w2 d R' (S.renamed a b n)) => step_any d R' (S.renamed a b n) w2 h2 hW.left.2
  have HAL := Lib.hid hal
  have HST := Lib.hid hst
  have HP1 := Lib.hid P1
  clear hE ha hb h h1 hnm hn e1 e2 hst hal P1 hW hab hr hsz hll
  go_enter Tryz.func118, Tryz.ntmps118
  go_wp2_with fail
  refine hcon.mono ?_
  rintro e w' ⟨rfl, rfl⟩
  go_wp2_with fail
  refine HAL.out.mono ?_
  rintro e w2 ⟨rfl, R2, P2⟩
  have P3 := HP1.out.trans P2
  clear P2 HAL HP1
  go_wp2_with fail
  refine (HST.out R2 w2 P3.at_).mono ?_
  rintro e w3 ⟨rfl, h3, f3⟩
  have P4 := P3.trans (PR.own h3 f3 (step_same _).2.2.2.1)
  clear P3 h3 f3 HST
  go_wp2
  go_ret
  exact ⟨rfl, R2, P4⟩

/-! ### New -/
def AS.new (room : Int) : AS := { room := roomOf room, on := true, armed := false, left := 0, steps := 0, last := 0, names := .map [], firm := .map [], loose := [], file := fun _ => none }

def AS.empty : AS := { room := 0, on := true, armed := false, left := 0, steps := 0, last := 0, names := .map [], firm := .map [], loose := [], file := fun _ => none }
def Rp.new (b : Nat) : Rp := { nm := some b, fm := none, fb := some (b + 1), lv := .slice none 0 0, rc := fun _ => (0, .slice none 0 0), FD := .map [] }
theorem new_mem (w : World) : At (((w.alloc (.map #[] 0)).alloc (.map #[] 0)).alloc (.cells (cellsOf AS.empty (Rp.new w.heap.size)) 109)) (w.heap.size + 1 + 1) (Rp.new w.heap.size) AS.empty ∧
    Fr No w (((w.alloc (.map #[] 0)).alloc (.map #[] 0)).alloc (.cells (cellsOf AS.empty (Rp.new w.heap.size)) 109)) := by
  have s1 : (w.alloc (.map #[] 0)).heap.size = w.heap.size + 1 := by simp
  have s2 : ((w.alloc (.map #[] 0)).alloc (.map #[] 0)).heap.size = w.heap.size + 1 + 1 := by simp
  have m1 := World.ownsMap_made (H := Unit) w Tryz.prog 9 (plainElem Tryz.prog 3)
  have m2 := World.ownsMap_made (H := Unit) (w.alloc (.map #[] 0)) Tryz.prog 3 ptrElem
  rw [s1] at m2
  refine ⟨{
    blk := by have := Blk.new ((w.alloc (.map #[] 0)).alloc (.map #[] 0)) 109 (cellsOf AS.empty (Rp.new w.heap.size)); rw [s2] at this; exact this
    names := (m1.alloc _).alloc _
    firm := rfl
    files := m2.alloc _
    loose := World.ownsRow_nil _ 0 114 3
    fd := fun n => rfl
    ne1 := fun b _ e => by cases e
    ne2 := fun b h e => by
      have h1 := Option.some.inj (show some w.heap.size = some b from h)
      have h2 := Option.some.inj (show some (w.heap.size + 1) = some b from e)
      omega
    ne3 := fun b h e => by cases h
    ap := fun n m r q _ h _ => by cases h
    onn := fun _ => ⟨_, _, rfl, rfl⟩ }, (((Fr.refl _ w).alloc _).alloc _).alloc _⟩

set_option maxHeartbeats 1000000 in
theorem new_any (room : Int) (w : World) :
    Calls Tryz.prog 18 #[.int .i64 room] w fun e w' => ∃ d R, e = .returned (.pointer (some ⟨d, 0, none⟩)) ∧ At w' d R (AS.new room) ∧ Fr No w w' ∧ ∀ k, foot d R (AS.new room) k → w.heap.size ≤ k := by
  have hmm := @run_makeMap Tryz.prog
  go_enter Tryz.func18, Tryz.ntmps18
  go_wp2_with fail
  obtain ⟨h0, f0⟩ := new_mem w
  refine (limit_any _ _ AS.empty room _ h0).mono ?_
  rintro e w' ⟨rfl, h1, f1⟩
  have H1 := Lib.hid h1
  have HF0 := Lib.hid f0
  have HF1 := Lib.hid f1
  clear h0 f0 h1 f1
  go_wp2
  go_ret
  refine ⟨w.heap.size + 1 + 1, Rp.new w.heap.size, rfl, H1.out, HF0.out.trans HF1.out (fun j hj hf => ?_), fun k hk => ?_⟩
  · have : j = w.heap.size + 1 + 1 := hf
    omega
  · rcases hk with hk | hk | hk | hk | hk | ⟨n, r, hr, _⟩
    · omega
    · have := Option.some.inj (show some w.heap.size = some k from hk); omega
    · cases hk
    · have := Option.some.inj (show some (w.heap.size + 1) = some k from hk); omega
    · simp [Rp.new, Value.ownBlock] at hk
    · cases hr

end Go.Proofs.YtoaiofjcjjkfaaaGreatDoor
/- What every disk keeps, whatever is done to it (no program here: plain lists and numbers). -/
namespace Go.Proofs.YtoaiofjcjjkfaaaGreatDoor
open Go.RowKit Go.Maps Go.Sort
set_option linter.unusedVariables false

abbrev KO : Lit → Prop := KeysOf Tryz.prog 9
theorem ko_mk {l : List UInt8} (h : l.length ≤ maxLen) : KO (.string l) := ⟨_, key9 l h⟩

/-- A table of names as it may be. -/
structure Good (f : Int → Option FR) (D : DU) : Prop where
  canon : CanonK KO D
  ints : Ints D
  small : Maps.size D ≤ 64
  ref : ∀ l n, look D l = some n → ∃ r, f n = some r
  inj : ∀ l m n, look D l = some n → look D m = some n → l = m
  ok : ∀ l n, look D l = some n → nameOk l = true

theorem nameOk_len {l : List UInt8} (h : nameOk l = true) : 1 ≤ l.length ∧ l.length ≤ 32 := by
  unfold nameOk at h
  simp at h
  omega
theorem nameOk_max {l : List UInt8} (h : nameOk l = true) : l.length ≤ maxLen := by have := nameOk_len h; unfold maxLen; omega

theorem Good.tidy {f : Int → Option FR} {D : DU} (h : Good f D) : Tidy D := by
  obtain ⟨es, e, hp, _⟩ := h.canon
  exact ⟨es, e, apart_of_rising hp⟩
theorem Good.isMap {f : Int → Option FR} {D : DU} (h : Good f D) : IsMap D := h.tidy.isMap
theorem Good.mono {f f' : Int → Option FR} {D : DU} (h : Good f D) (hf : ∀ l n r, look D l = some n → f n = some r → ∃ r', f' n = some r') : Good f' D :=
  ⟨h.canon, h.ints, h.small, fun l n hl => by obtain ⟨r, hr⟩ := h.ref l n hl; exact hf l n r hl hr, h.inj, h.ok⟩
theorem good_empty (f : Int → Option FR) : Good f (.map []) :=
  ⟨⟨[], rfl, List.Pairwise.nil, (by intro p hp; cases hp)⟩, fun s hs => (by simp [has] at hs), (by simp [Maps.size]), fun l n h => (by cases h), fun l m n h => (by cases h), fun l n h => (by cases h)⟩

theorem canonK_del {D : DU} (h : CanonK KO D) (k : Lit) : CanonK KO (D.del k) := by
  obtain ⟨es, rfl, hp, hk⟩ := h
  exact ⟨_, rfl, hp.filter _, fun p hp => hk p (List.mem_filter.1 hp).1⟩

theorem ints_put {D : DU} (h : Ints D) (hm : IsMap D) (l : List UInt8) (n : Int) : Ints (D.put (.string l) (.lit (.int .i64 n))) := by
  intro s hs
  by_cases e : s = l
  · subst e; exact ⟨n, fun z => atKey_put_same hm (isKey s) _ z⟩
  · rw [has_put_other (key_ne e)] at hs
    obtain ⟨c, hc⟩ := h s hs
    exact ⟨c, fun z => by rw [atKey_put_other (key_ne e)]; exact hc z⟩
theorem ints_del {D : DU} (h : Ints D) (l : List UInt8) : Ints (D.del (.string l)) := by
  intro s hs
  by_cases e : s = l
  · subst e; rw [has_del_same] at hs; cases hs
  · rw [has_del_other (key_ne e)] at hs
    obtain ⟨c, hc⟩ := h s hs
    exact ⟨c, fun z => by rw [atKey_del_other (key_ne e)]; exact hc z⟩

/-- A new name for a new file. -/
theorem Good.make {f : Int → Option FR} {D : DU} (h : Good f D) {l : List UInt8} {n : Int} {r : FR} (hl : nameOk l = true) (hn : look D l = none) (hf : f n = none) (hs : Maps.size D < 64) :
    Good (upd f n (some r)) ((Ch.mk [] l n).app D) := by
  have hne : l ≠ [] := by intro e; subst e; simp [nameOk] at hl
  have hno : has D (.string []) = false := by
    rw [has_look h.ints]
    cases hx : look D [] with
    | none => rfl
    | some m => have := h.ok _ _ hx; simp [nameOk] at this
  have e : (Ch.mk [] l n).app D = D.put (.string l) (.lit (.int .i64 n)) := by
    unfold Ch.app; simp only; rw [if_neg hne, del_of_not_has hno]
  rw [e]
  have hm := h.isMap
  have hh : has D (.string l) = false := by rw [has_look h.ints, hn]; rfl
  have hlk : ∀ s m, look (D.put (.string l) (.lit (.int .i64 n))) s = some m → (s = l ∧ m = n) ∨ (s ≠ l ∧ look D s = some m) := by
    intro s m hsm
    by_cases e : s = l
    · subst e; rw [look_put_same hm] at hsm; cases hsm; exact .inl ⟨rfl, rfl⟩
    · rw [look_put_other e] at hsm; exact .inr ⟨e, hsm⟩
  have hnn : ∀ s, look D s ≠ some n := fun s hs => by obtain ⟨r, hr⟩ := h.ref s n hs; rw [hf] at hr; cases hr
  refine ⟨canonK_put law9.one (ko_mk (nameOk_max hl)) _ h.canon, ints_put h.ints hm l n, ?_, ?_, ?_, ?_⟩
  · rw [size_put h.tidy, hh]; simp; omega
  · intro s m hsm
    rcases hlk s m hsm with ⟨_, rfl⟩ | ⟨_, hd⟩
    · exact ⟨r, upd_same _ _ _⟩
    · obtain ⟨q, hq⟩ := h.ref s m hd
      exact ⟨q, by rw [upd_other _ _ (by rintro rfl; rw [hf] at hq; cases hq)]; exact hq⟩
  · intro s t m hs ht
    rcases hlk s m hs with ⟨rfl, rfl⟩ | ⟨_, hd⟩
    · rcases hlk t m ht with ⟨rfl, _⟩ | ⟨_, hd'⟩
      · rfl
      · exact absurd hd' (hnn t)
    · rcases hlk t m ht with ⟨rfl, rfl⟩ | ⟨_, hd'⟩
      · exact absurd hd (hnn s)
      · exact h.inj s t m hd hd'
  · intro s m hs
    rcases hlk s m hs with ⟨rfl, _⟩ | ⟨_, hd⟩
    · exact hl
    · exact h.ok s m hd

/-- A file gets another name. -/
theorem Good.rename {f : Int → Option FR} {D : DU} (h : Good f D) {a b : List UInt8} {n : Int} (hb : nameOk b = true) (ha : look D a = some n) : Good f ((Ch.mk a b n).app D) := by
  have hne : b ≠ [] := by intro e; subst e; simp [nameOk] at hb
  have e : (Ch.mk a b n).app D = (D.del (.string a)).put (.string b) (.lit (.int .i64 n)) := by unfold Ch.app; simp only; rw [if_neg hne]
  rw [e]
  have hm := h.isMap.del (.string a)
  have hlk : ∀ s m, look ((D.del (.string a)).put (.string b) (.lit (.int .i64 n))) s = some m → (s = b ∧ m = n) ∨ (s ≠ b ∧ s ≠ a ∧ look D s = some m) := by
    intro s m hsm
    by_cases e : s = b
    · subst e; rw [look_put_same hm] at hsm; cases hsm; exact .inl ⟨rfl, rfl⟩
    · rw [look_put_other e] at hsm
      by_cases e' : s = a
      · subst e'; rw [look_del_same] at hsm; cases hsm
      · rw [look_del_other e'] at hsm; exact .inr ⟨e, e', hsm⟩
  have hh : has D (.string a) = true := by rw [has_look h.ints, ha]; rfl
  refine ⟨canonK_put law9.one (ko_mk (nameOk_max hb)) _ (canonK_del h.canon _), ints_put (ints_del h.ints a) hm b n, ?_, ?_, ?_, ?_⟩
  · rw [size_put (h.tidy.del _)]
    have := size_del (k := .string a) h.tidy
    rw [hh] at this
    have hs := h.small
    split <;> simp at this <;> omega
  · intro s m hsm
    rcases hlk s m hsm with ⟨_, rfl⟩ | ⟨_, _, hd⟩
    · exact h.ref a m ha
    · exact h.ref s m hd
  · intro s t m hs ht
    rcases hlk s m hs with ⟨rfl, rfl⟩ | ⟨_, h2, hd⟩
    · rcases hlk t m ht with ⟨rfl, _⟩ | ⟨_, h2', hd'⟩
      · rfl
      · exact absurd (h.inj t a m hd' ha) h2'
    · rcases hlk t m ht with ⟨rfl, rfl⟩ | ⟨_, h2', hd'⟩
      · exact absurd (h.inj s a m hd ha) h2
      · exact h.inj s t m hd hd'
  · intro s m hs
    rcases hlk s m hs with ⟨rfl, _⟩ | ⟨_, _, hd⟩
    · exact hb
    · exact h.ok s m hd

/-- A name goes. -/
theorem Good.remove {f : Int → Option FR} {D : DU} (h : Good f D) (a : List UInt8) : Good f ((Ch.mk a [] 0).app D) := by
  have e : (Ch.mk a [] 0).app D = D.del (.string a) := by unfold Ch.app; simp
  rw [e]
  have hlk : ∀ s m, look (D.del (.string a)) s = some m → look D s = some m := by
    intro s m hsm
    by_cases e' : s = a
    · subst e'; rw [look_del_same] at hsm; cases hsm
    · rw [look_del_other e'] at hsm; exact hsm
  refine ⟨canonK_del h.canon _, ints_del h.ints a, ?_, fun s m hs => h.ref s m (hlk s m hs), fun s t m hs ht => h.inj s t m (hlk s m hs) (hlk t m ht), fun s m hs => h.ok s m (hlk s m hs)⟩
  have := size_del (k := .string a) h.tidy
  have hs := h.small
  omega

/-- What every disk keeps: at most so many changes of names ever, N. -/
structure Inv (N : Nat) (S : AS) : Prop where
  left : 0 ≤ S.left ∧ S.left ≤ 9223372036854775807
  room : 0 ≤ S.room ∧ S.room ≤ 16777216
  last : 0 ≤ S.last ∧ S.last ≤ N
  loose : S.loose.length ≤ N
  now : S.names = past S S.loose.length
  good : ∀ k, k ≤ S.loose.length → Good S.file (past S k)
  chs : ∀ c ∈ S.loose, c.frm.length ≤ 32 ∧ c.to.length ≤ 32 ∧ 0 ≤ c.file ∧ c.file ≤ S.last
  file : ∀ n r, S.file n = some r → 1 ≤ n ∧ n ≤ S.last ∧ r.firm ≤ r.bytes.length ∧ r.bytes.length ≤ 16777216

theorem Inv.names {N : Nat} {S : AS} (h : Inv N S) : Good S.file S.names := by
  have := h.good S.loose.length (Nat.le_refl _)
  rw [← h.now] at this
  exact this
theorem Inv.wf {N : Nat} {S : AS} (h : Inv N S) (hN : N ≤ 4611686018427387904) : WF S :=
  ⟨h.left, h.room, by have := h.last; omega, h.names.ref, h.file⟩
theorem Inv.mono {N M : Nat} {S : AS} (h : Inv N S) (hNM : N ≤ M) : Inv M S :=
  ⟨h.left, h.room, by have := h.last; omega, by have := h.loose; omega, h.now, h.good, h.chs, h.file⟩
theorem past_same {S S' : AS} (e1 : S'.firm = S.firm) (e2 : S'.loose = S.loose) (k : Nat) : past S' k = past S k := by unfold past; rw [e1, e2]

/-- Where names, and which files there are, stay. -/
theorem Inv.keep {N : Nat} {S S' : AS} (h : Inv N S) (e1 : S'.names = S.names) (e2 : S'.firm = S.firm) (e3 : S'.loose = S.loose) (e4 : S'.last = S.last)
    (hl : 0 ≤ S'.left ∧ S'.left ≤ 9223372036854775807) (hr : 0 ≤ S'.room ∧ S'.room ≤ 16777216) (hf : ∀ n r, S.file n = some r → ∃ r', S'.file n = some r')
    (hf' : ∀ n r, S'.file n = some r → 1 ≤ n ∧ n ≤ S.last ∧ r.firm ≤ r.bytes.length ∧ r.bytes.length ≤ 16777216) : Inv N S' := by
  refine ⟨hl, hr, by rw [e4]; exact h.last, by rw [e3]; exact h.loose, ?_, ?_, ?_, fun n r hr => by rw [e4]; exact hf' n r hr⟩
  · rw [e1, h.now, e3]; exact (past_same e2 e3 _).symm
  · intro k hk
    rw [past_same e2 e3 k]
    exact (h.good k (by rw [e3] at hk; exact hk)).mono fun l n r _ hr => hf n r hr
  · rw [e3, e4]; exact h.chs

theorem Inv.step {N : Nat} {S : AS} (h : Inv N S) : Inv N S.step := by
  obtain ⟨e1, e2, e3, e4, e5, e6⟩ := step_same S
  exact h.keep e1 e2 e3 e6 (step_left h.left) (by rw [e5]; exact h.room) (fun n r hr => ⟨r, by rw [e4]; exact hr⟩) (by rw [e4]; exact h.file)
theorem Inv.arm {N : Nat} {S : AS} (h : Inv N S) (n : Int) (hn : n ≤ 9223372036854775807) : Inv N (S.arm n) :=
  h.keep rfl rfl rfl rfl ⟨by show 0 ≤ max n 0; omega, by show max n 0 ≤ _; omega⟩ h.room (fun n r hr => ⟨r, hr⟩) h.file
theorem Inv.limit {N : Nat} {S : AS} (h : Inv N S) (n : Int) : Inv N (S.limit n) :=
  h.keep rfl rfl rfl rfl h.left (by show 0 ≤ roomOf n ∧ roomOf n ≤ 16777216; unfold roomOf; omega) (fun n r hr => ⟨r, hr⟩) h.file
/-- One file's bytes turn. -/
theorem Inv.turn {N : Nat} {S : AS} (h : Inv N S) {n : Int} {r : FR} (hr : S.file n = some r) {r' : FR} (h1 : r'.firm ≤ r'.bytes.length) (h2 : r'.bytes.length ≤ 16777216) : Inv N { S with file := upd S.file n (some r') } := by
  refine h.keep rfl rfl rfl rfl h.left h.room (fun m q hq => ?_) (fun m q hq => ?_)
  · by_cases e : m = n
    · subst e; exact ⟨r', upd_same _ _ _⟩
    · exact ⟨q, by show upd S.file n _ m = _; rw [upd_other _ _ e]; exact hq⟩
  · have hq' : upd S.file n (some r') m = some q := hq
    by_cases e : m = n
    · subst e
      rw [upd_same] at hq'
      cases hq'
      have := h.file m r hr
      exact ⟨this.1, this.2.1, h1, h2⟩
    · rw [upd_other _ _ e] at hq'
      exact h.file m q hq'

theorem past_app (S : AS) (c : Ch) (k : Nat) (hk : k ≤ S.loose.length) : past (S.altered c) k = past S k := by
  unfold past AS.altered
  simp only
  rw [List.take_append_of_le_length hk]
theorem past_app_last (S : AS) (c : Ch) : past (S.altered c) (S.altered c).loose.length = c.app (past S S.loose.length) := by
  have h1 : (S.altered c).loose.length = S.loose.length + 1 := by simp [AS.altered]
  rw [h1, past_succ _ _ (by rw [h1]; omega), past_app S c _ (Nat.le_refl _)]
  congr 1
  simp [AS.altered]

theorem Inv.altered {N : Nat} {S : AS} (h : Inv N S) {c : Ch} (hc : c.frm.length ≤ 32 ∧ c.to.length ≤ 32 ∧ 0 ≤ c.file ∧ c.file ≤ S.last) (hg : Good S.file (c.app S.names)) : Inv (N + 1) (S.altered c) := by
  have hl : (S.altered c).loose.length = S.loose.length + 1 := by simp [AS.altered]
  refine ⟨h.left, h.room, by have := h.last; exact ⟨this.1, by show S.last ≤ _; push_cast; omega⟩, by rw [hl]; have := h.loose; omega, ?_, ?_, ?_, h.file⟩
  · rw [past_app_last, ← h.now]; rfl
  · intro k hk
    by_cases e : k ≤ S.loose.length
    · rw [past_app S c k e]; exact h.good k e
    · have : k = (S.altered c).loose.length := by omega
      subst this
      rw [past_app_last, ← h.now]
      exact hg
  · intro c' hc'
    have : c' ∈ S.loose ++ [c] := hc'
    rcases List.mem_append.1 this with h1 | h1
    · exact h.chs c' h1
    · rw [List.mem_singleton] at h1; subst h1; exact hc

/-- A file is made. -/
theorem Inv.made {N : Nat} {S : AS} (h : Inv N S) {l : List UInt8} (hl : nameOk l = true) (hn : look S.names l = none) (hs : Maps.size S.names < 64) : Inv (N + 1) (S.made l) := by
  have hnone : S.file (S.last + 1) = none := by
    cases hf : S.file (S.last + 1) with
    | none => rfl
    | some r => have := (h.file _ r hf).2.1; omega
  have ho : Inv (N + 1) S.opened := by
    refine ⟨h.left, h.room, by have := h.last; show 0 ≤ S.last + 1 ∧ S.last + 1 ≤ _; push_cast; omega, by have := h.loose; show S.loose.length ≤ _; omega, h.now, fun k hk => ?_, fun c hc => by have := h.chs c hc; exact ⟨this.1, this.2.1, this.2.2.1, by show c.file ≤ S.last + 1; omega⟩, fun n r hr => ?_⟩
    · refine (h.good k hk).mono fun l n r hl hr => ⟨r, ?_⟩
      show upd S.file _ _ n = _
      rw [upd_other _ _ (by rintro rfl; rw [hnone] at hr; cases hr)]
      exact hr
    · have hr' : upd S.file (S.last + 1) (some { bytes := [], firm := 0 }) n = some r := hr
      by_cases e : n = S.last + 1
      · subst e
        rw [upd_same] at hr'
        cases hr'
        have := h.last
        exact ⟨by omega, Int.le_refl _, by simp, by simp⟩
      · rw [upd_other _ _ e] at hr'
        have := h.file n r hr'
        exact ⟨this.1, by show n ≤ S.last + 1; omega, this.2.2⟩
  have hg : Good S.opened.file ((Ch.mk [] l (S.last + 1)).app S.opened.names) := h.names.make hl hn hnone hs
  have hll := nameOk_len hl
  have hla := h.last
  have := ho.altered (c := Ch.mk [] l (S.last + 1)) ⟨by simp, hll.2, by show 0 ≤ S.last + 1; omega, Int.le_refl _⟩ hg
  refine ⟨this.left, this.room, ?_, ?_, this.now, this.good, this.chs, this.file⟩
  · show 0 ≤ S.last + 1 ∧ S.last + 1 ≤ _; push_cast; omega
  · show (S.loose ++ [_]).length ≤ _; have := h.loose; simp; omega

theorem Inv.renamed {N : Nat} {S : AS} (h : Inv N S) {a b : List UInt8} {n : Int} (ha : nameOk a = true) (hb : nameOk b = true) (hn : look S.names a = some n) : Inv (N + 1) (S.renamed a b n) := by
  obtain ⟨r, hr⟩ := h.names.ref a n hn
  have := h.file n r hr
  exact h.altered ⟨(nameOk_len ha).2, (nameOk_len hb).2, by show 0 ≤ n; omega, this.2.1⟩ (h.names.rename hb hn)
theorem Inv.removed {N : Nat} {S : AS} (h : Inv N S) {a : List UInt8} (ha : nameOk a = true) : Inv (N + 1) (S.removed a) :=
  h.altered ⟨(nameOk_len ha).2, by simp, Int.le_refl _, h.last.1⟩ (h.names.remove a)

theorem keeps_of {f : Int → Option FR} {D : DU} (h : Good f D) {l : List UInt8} {n : Int} (hl : look D l = some n) : keeps D n = true :=
  keeps_look (h.canon.canon law9.one) (look_some h.ints hl)

theorem Inv.settled {N : Nat} {S : AS} (h : Inv N S) : Inv N S.settled := by
  have hg : Good S.settled.file S.names := h.names.mono fun l n r hl hr => ⟨r, by show (if keeps S.names n = true then S.file n else none) = _; rw [if_pos (keeps_of h.names hl)]; exact hr⟩
  refine ⟨h.left, h.room, h.last, Nat.zero_le _, rfl, fun k hk => ?_, fun c hc => (by cases hc), fun n r hr => ?_⟩
  · have : past S.settled k = S.names := by unfold past AS.settled; simp
    rw [this]; exact hg
  · have hr' : (if keeps S.names n = true then S.file n else none) = some r := hr
    split at hr'
    · exact h.file n r hr'
    · cases hr'

theorem foldl_isSome (D : DU) (m : Int) : ∀ (ls : List (List UInt8)) (st : (Int → Option FR) × List Int), ((ls.foldl (crashStep D) st).1 m).isSome = (st.1 m).isSome := by
  intro ls
  induction ls with
  | nil => intro st; rfl
  | cons l ls ih => intro st; rw [List.foldl_cons, ih, crashStep_isSome]
theorem foldl_sane (D : DU) : ∀ (ls : List (List UInt8)) (st : (Int → Option FR) × List Int), Sane st.1 → Sane (ls.foldl (crashStep D) st).1 := by
  intro ls
  induction ls with
  | nil => intro st h; exact h
  | cons l ls ih => intro st h; rw [List.foldl_cons]; exact ih _ (h.step l)

theorem Inv.crashed {N : Nat} {S : AS} (h : Inv N S) (ps : List Int) : Inv N (S.crashed ps) := by
  have hk : (pickN ps (S.loose.length : Int)).toNat ≤ S.loose.length := by have := pickN_bd ps (S.loose.length : Int) (by omega); omega
  have hgk := h.good _ hk
  have hsane : Sane S.file := fun n r hr => (h.file n r hr).2.2
  unfold AS.crashed
  generalize (pickN ps (S.loose.length : Int)).toNat = k at *
  have hsn := foldl_sane (past S k) (sortedKeys (past S k)) (S.file, ps.tail) hsane
  have his : ∀ m, (((sortedKeys (past S k)).foldl (crashStep (past S k)) (S.file, ps.tail)).1 m).isSome = (S.file m).isSome := fun m => foldl_isSome (past S k) m (sortedKeys (past S k)) (S.file, ps.tail)
  generalize ((sortedKeys (past S k)).foldl (crashStep (past S k)) (S.file, ps.tail)).1 = f at *
  have hff : ∀ n r, f n = some r → 1 ≤ n ∧ n ≤ S.last ∧ r.firm ≤ r.bytes.length ∧ r.bytes.length ≤ 16777216 := fun n r hr => by
    have := his n
    rw [hr] at this
    obtain ⟨q, hq⟩ := Option.isSome_iff_exists.1 this.symm
    have h1 := h.file n q hq
    exact ⟨h1.1, h1.2.1, hsn n r hr⟩
  have hg : Good f (past S k) := hgk.mono fun l n r _ hr => by
    have := his n
    rw [hr] at this
    exact Option.isSome_iff_exists.1 this
  have hi : Inv N { S with names := past S k, firm := past S k, loose := [], file := f } :=
    ⟨h.left, h.room, h.last, Nat.zero_le _, rfl, fun j hj => by
      have : past { S with names := past S k, firm := past S k, loose := [], file := f } j = past S k := by unfold past; simp
      rw [this]; exact hg, fun c hc => (by cases hc), hff⟩
  have h2 := hi.settled
  exact (h2.keep (S' := { AS.settled { S with names := past S k, file := f } with on := true }) rfl rfl rfl rfl h.left h.room (fun n r hr => ⟨r, hr⟩) (fun n r hr => h2.file n r hr)).arm (-1) (by omega)

theorem inv_new (room : Int) : Inv 0 (AS.new room) := by
  refine ⟨⟨Int.le_refl _, by show (0 : Int) ≤ _; omega⟩, ?_, ⟨Int.le_refl _, Int.le_refl _⟩, Nat.le_refl _, rfl, fun k hk => ?_, fun c hc => (by cases hc), fun n r hr => by cases hr⟩
  · show 0 ≤ roomOf room ∧ roomOf room ≤ 16777216; unfold roomOf; omega
  · have : past (AS.new room) k = .map [] := by unfold past AS.new; simp
    rw [this]; exact good_empty _

end Go.Proofs.YtoaiofjcjjkfaaaGreatDoor
/- The calls, as a law sees them: a disk lies from block B on, and keeps what every disk keeps. -/
namespace Go.Proofs.YtoaiofjcjjkfaaaGreatDoor
open Go.RowKit Go.Maps Go.Sort
set_option linter.unusedVariables false

structure Dsk (w : World) (B d N : Nat) (S : AS) : Prop where
  inv : Inv N S
  mem : ∃ R, At w d R S ∧ ∀ k, foot d R S k → B ≤ k
  big : N ≤ 1000000000000
  base : B ≤ w.heap.size

theorem Dsk.of_post {w w' : World} {B d M : Nat} {R : Rp} {S S' : AS} (hb : B ≤ w.heap.size) (hf : ∀ k, foot d R S k → B ≤ k) (hP : Post d R S w S' w') (hi : Inv M S') (hM : M ≤ 1000000000000) : Dsk w' B d M S' ∧ Below B w w' := by
  obtain ⟨R', P⟩ := hP
  have hbl : Below B w w' := P.fr.below_of hb hf
  refine ⟨⟨hi, ⟨R', P.at_, fun k hk => ?_⟩, hM, Nat.le_trans hb hbl.size⟩, hbl⟩
  rcases P.foot k hk with h | h
  · exact hf k h
  · omega
theorem Dsk.keep {w w' : World} {B d N : Nat} {S : AS} (h : Dsk w B d N S) (hf : Fr No w w') : Dsk w' B d N S := by
  obtain ⟨R, h1, h2⟩ := h.mem
  exact ⟨h.inv, ⟨R, h1.keep hf, h2⟩, h.big, Nat.le_trans h.base hf.size⟩
theorem Dsk.below {w w' : World} {B d N : Nat} {S : AS} (h : Dsk w B d N S) (hb : Below w.heap.size w w') : Dsk w' B d N S := h.keep (Fr.of_below hb)
theorem Dsk.more {w : World} {B d N M : Nat} {S : AS} (h : Dsk w B d N S) (hNM : N ≤ M) (hM : M ≤ 1000000000000) : Dsk w B d M S := ⟨h.inv.mono hNM, h.mem, hM, h.base⟩
theorem fr_base {w w' : World} {B d N : Nat} {S : AS} (h : Dsk w B d N S) (hf : Fr No w w') : Below B w w' := hf.below.mono h.base
theorem Dsk.wf {w : World} {B d N : Nat} {S : AS} (h : Dsk w B d N S) : WF S := h.inv.wf (by have := h.big; omega)
theorem Dsk.size {w : World} {B d N : Nat} {S : AS} (h : Dsk w B d N S) : Maps.size S.names ≤ 1000000 := by have := h.inv.names.small; omega

def AS.write (S : AS) (l data : List UInt8) : AS × Int :=
  if checkOf S.on [l] = 0 then
    if S.room < usedOf S.file S.names + data.length then (S, 12)
    else match look S.names l with
      | some n => match S.file n with
        | some r => ((S.written n r data).step, S.stepE)
        | none => (S, 12)
      | none => if 64 ≤ Maps.size S.names then (S, 12) else (((S.made l).written (S.last + 1) { bytes := [], firm := 0 } data).step, S.stepE)
  else (S, checkOf S.on [l])

theorem checkOf_ok {on : Bool} {l : List UInt8} (h : checkOf on [l] = 0) : nameOk l = true := by
  cases on
  · simp [checkOf] at h
  · unfold checkOf at h
    simp at h
    exact h
theorem used_nonneg {f : Int → Option FR} {D : DU} : 0 ≤ usedOf f D := by
  unfold usedOf
  cases D with
  | map es => exact sum_nonneg _ _
  | _ => simp

theorem len_le_used {f : Int → Option FR} {D : DU} (c : Canon D) (hi : Ints D) {l : List UInt8} {n : Int} {r : FR} (hl : look D l = some n) (hr : f n = some r) : (r.bytes.length : Int) ≤ usedOf f D := by
  obtain ⟨es, p, rfl, hp, hk, hv, hu⟩ := find_entry c (look_some hi hl)
  unfold usedOf
  simp only
  have : ∀ es : List (Lit × DU), p ∈ es → flen f p ≤ (es.map (flen f)).sum := by
    intro es
    induction es with
    | nil => intro h; cases h
    | cons q es ih =>
      intro h
      have h1 := sum_nonneg f es
      have h2 := flen_nonneg f q
      rcases List.mem_cons.1 h with rfl | h
      · simp; omega
      · have := ih h; simp; omega
  have h1 := this es hp
  have h2 : flen f p = r.bytes.length := by unfold flen; rw [hv]; simp only [hr]
  omega

theorem m_write {w : World} {B d N : Nat} {S : AS} (h : Dsk w B d N S) (hN : N + 1 ≤ 1000000000000) (l : List UInt8) (data : List UInt8) (hl : l.length ≤ maxLen) (hd : data.length ≤ maxLen) :
    Calls Tryz.prog 110 #[.pointer (some ⟨d, 0, none⟩), .string ⟨l.toArray⟩, .string ⟨data.toArray⟩] w fun e w' => e = .returned (.int .i64 (S.write l data).2) ∧ Dsk w' B d (N + 1) (S.write l data).1 ∧ Below B w w' := by
  obtain ⟨R, hA, hf⟩ := h.mem
  have hW := h.wf
  have hsz := h.size
  have hsd : (⟨data.toArray⟩ : ByteArray).size = data.length := by simp [ByteArray.size]
  have hlo := h.inv.loose
  have hla := h.inv.last
  have hbig := h.big
  have stay : ∀ {E : Int}, Calls Tryz.prog 110 #[.pointer (some ⟨d, 0, none⟩), .string ⟨l.toArray⟩, .string ⟨data.toArray⟩] w (fun e w' => e = .returned (.int .i64 E) ∧ Fr No w w') →
      Calls Tryz.prog 110 #[.pointer (some ⟨d, 0, none⟩), .string ⟨l.toArray⟩, .string ⟨data.toArray⟩] w fun e w' => e = .returned (.int .i64 E) ∧ Dsk w' B d (N + 1) S ∧ Below B w w' := fun hc => by
    refine hc.mono ?_
    rintro e w' ⟨he, hfr⟩
    exact ⟨he, (h.keep hfr).more (by omega) hN, fr_base h hfr⟩
  unfold AS.write
  by_cases hE : checkOf S.on [l] = 0
  · rw [if_pos hE]
    by_cases hful : S.room < usedOf S.file S.names + data.length
    · rw [if_pos hful]
      exact stay (write_full1 d R S l (look S.names l) ⟨data.toArray⟩ w hA hW hl hE rfl hsz (by rw [hsd]; exact hd) (by rw [hsd]; exact hful))
    · rw [if_neg hful]
      cases hn : look S.names l with
      | some n =>
        obtain ⟨r, hr⟩ := hW.ref l n hn
        simp only [hr]
        refine (write_old d R S l n r data w hA hW hl hE hn hr hsz (by omega)).mono ?_
        rintro e w' ⟨he, hP⟩
        have hlen := len_le_used (h.inv.names.canon.canon law9.one) h.inv.names.ints hn hr
        have hroom := h.inv.room
        have hfi := h.inv.file n r hr
        have hi : Inv (N + 1) (S.written n r data).step := ((h.inv.turn hr (r' := { bytes := r.bytes ++ data, firm := r.firm }) (by simp; omega) (by simp; omega)).step).mono (by omega)
        exact ⟨he, Dsk.of_post h.base hf hP hi hN⟩
      | none =>
        simp only
        by_cases h64 : 64 ≤ Maps.size S.names
        · rw [if_pos h64]
          exact stay (write_full2 d R S l data w hA hW hl hE hn hsz (by omega) h64)
        · rw [if_neg h64]
          refine (write_new d R S l data w hA hW hl hE hn hsz (by omega) (by omega) (by omega) (by omega)).mono ?_
          rintro e w' ⟨he, hP⟩
          have hm := h.inv.made (checkOf_ok hE) hn (by omega)
          have hroom := h.inv.room
          have hu := @used_nonneg S.file S.names
          have hi := (hm.turn (n := S.last + 1) (r := { bytes := [], firm := 0 }) (upd_same _ _ _) (r' := { bytes := [] ++ data, firm := 0 }) (by simp) (by simp; omega)).step
          exact ⟨he, Dsk.of_post h.base hf hP hi hN⟩
  · rw [if_neg hE]
    exact stay (write_bad d R S l ⟨data.toArray⟩ _ w hA hl rfl hE)

def AS.read (S : AS) (l : List UInt8) : List UInt8 × Int :=
  if checkOf S.on [l] = 0 then
    match look S.names l with
    | some n => match S.file n with
      | some r => (r.bytes, 0)
      | none => ([], 11)
    | none => ([], 11)
  else ([], checkOf S.on [l])

theorem m_read {w : World} {B d N : Nat} {S : AS} (h : Dsk w B d N S) (l : List UInt8) (hl : l.length ≤ maxLen) :
    Calls Tryz.prog 73 #[.pointer (some ⟨d, 0, none⟩), .string ⟨l.toArray⟩] w fun e w' => e = .returned (.tuple #[.string ⟨(S.read l).1.toArray⟩, .int .i64 (S.read l).2]) ∧ Fr No w w' := by
  obtain ⟨R, hA, hf⟩ := h.mem
  unfold AS.read
  by_cases hE : checkOf S.on [l] = 0
  · rw [if_pos hE]
    cases hn : look S.names l with
    | none => exact read_none d R S l w hA hl hE hn
    | some n =>
      obtain ⟨r, hr⟩ := h.wf.ref l n hn
      simp only [hr]
      exact read_some d R S l n r w hA h.wf hl hE hn hr
  · rw [if_neg hE]
    exact read_bad d R S l _ w hA hl rfl hE

theorem m_sync {w : World} {B d N : Nat} {S : AS} (h : Dsk w B d N S) (l : List UInt8) (hl : l.length ≤ maxLen) :
    Calls Tryz.prog 112 #[.pointer (some ⟨d, 0, none⟩), .string ⟨l.toArray⟩] w fun e w' => e = .returned (.int .i64 (S.sync l).2) ∧ Dsk w' B d N (S.sync l).1 ∧ Below B w w' := by
  obtain ⟨R, hA, hf⟩ := h.mem
  refine (sync_any d R S l w hA h.wf hl).mono ?_
  rintro e w' ⟨he, hP⟩
  refine ⟨he, Dsk.of_post h.base hf hP ?_ h.big⟩
  unfold AS.sync
  by_cases hE : checkOf S.on [l] = 0
  · rw [if_pos hE]
    cases hn : look S.names l with
    | none => exact h.inv
    | some n =>
      cases hr : S.file n with
      | none => simp only [hr]; exact h.inv
      | some r =>
        simp only [hr]
        have hst := h.inv.step
        split
        · exact hst.turn (n := n) (r := r) (by rw [(step_same S).2.2.2.1]; exact hr) (r' := { bytes := r.bytes, firm := r.bytes.length }) (Nat.le_refl _) (h.inv.file n r hr).2.2.2
        · exact hst
  · rw [if_neg hE]; exact h.inv

def AS.settle (S : AS) : AS × Int :=
  if S.on then (if S.stepE = 0 then (S.step.settled, 0) else (S.step, 13)) else (S, 13)

theorem m_settle {w : World} {B d N : Nat} {S : AS} (h : Dsk w B d N S) :
    Calls Tryz.prog 113 #[.pointer (some ⟨d, 0, none⟩)] w fun e w' => e = .returned (.int .i64 S.settle.2) ∧ Dsk w' B d N S.settle.1 ∧ Below B w w' := by
  obtain ⟨R, hA, hf⟩ := h.mem
  unfold AS.settle
  by_cases hon : S.on = true
  · rw [if_pos hon]
    rcases stepE_01 S with he | he
    · rw [if_pos he]
      refine (settle_ok d R S w hA h.wf h.size hon he).mono ?_
      rintro e w' ⟨h1, hP⟩
      exact ⟨h1, Dsk.of_post h.base hf hP h.inv.step.settled h.big⟩
    · rw [if_neg (by rw [he]; decide)]
      refine (settle_out d R S w hA h.inv.left.2 hon he).mono ?_
      rintro e w' ⟨h1, hP⟩
      exact ⟨h1, Dsk.of_post h.base hf hP.post h.inv.step h.big⟩
  · rw [if_neg hon]
    have hoff : S.on = false := by simpa using hon
    refine (settle_off d w (by have := (cells_all hA).2.1; rw [hoff] at this; exact this)).mono ?_
    rintro e w' ⟨h1, rfl⟩
    exact ⟨h1, h, Below.refl _ _⟩

def AS.rename (S : AS) (a b : List UInt8) : AS × Int :=
  if checkOf S.on [a, b] = 0 then
    match look S.names a with
    | none => (S, 11)
    | some n => if a = b then (S.step, S.stepE) else ((S.renamed a b n).step, S.stepE)
  else (S, checkOf S.on [a, b])

theorem checkOf_ok2 {on : Bool} {a b : List UInt8} (h : checkOf on [a, b] = 0) : nameOk a = true ∧ nameOk b = true := by
  cases on
  · simp [checkOf] at h
  · unfold checkOf at h
    simp at h
    exact h

theorem m_rename {w : World} {B d N : Nat} {S : AS} (h : Dsk w B d N S) (hN : N + 1 ≤ 1000000000000) (a b : List UInt8) (ha : a.length ≤ maxLen) (hb : b.length ≤ maxLen) :
    Calls Tryz.prog 118 #[.pointer (some ⟨d, 0, none⟩), .string ⟨a.toArray⟩, .string ⟨b.toArray⟩] w fun e w' => e = .returned (.int .i64 (S.rename a b).2) ∧ Dsk w' B d (N + 1) (S.rename a b).1 ∧ Below B w w' := by
  obtain ⟨R, hA, hf⟩ := h.mem
  have hlo := h.inv.loose
  unfold AS.rename
  by_cases hE : checkOf S.on [a, b] = 0
  · rw [if_pos hE]
    cases hn : look S.names a with
    | none =>
      refine (rename_none d R S a b w hA ha hb hE hn).mono ?_
      rintro e w' ⟨he, hfr⟩
      exact ⟨he, (h.keep hfr).more (by omega) hN, fr_base h hfr⟩
    | some n =>
      simp only
      by_cases hab : a = b
      · subst hab
        rw [if_pos rfl]
        refine (rename_same d R S a n w hA h.wf ha hE hn).mono ?_
        rintro e w' ⟨he, hP⟩
        exact ⟨he, Dsk.of_post h.base hf hP.post (h.inv.step.mono (by omega)) hN⟩
      · rw [if_neg hab]
        obtain ⟨r, hr⟩ := h.wf.ref a n hn
        refine (rename_other d R S a b n r w hA h.wf ha hb hab hE hn hr h.size (by omega)).mono ?_
        rintro e w' ⟨he, hP⟩
        have hok := checkOf_ok2 hE
        exact ⟨he, Dsk.of_post h.base hf hP (h.inv.renamed hok.1 hok.2 hn).step hN⟩
  · rw [if_neg hE]
    refine (rename_bad d R S a b _ w hA ha hb rfl hE).mono ?_
    rintro e w' ⟨he, hfr⟩
    exact ⟨he, (h.keep hfr).more (by omega) hN, fr_base h hfr⟩

def AS.remove (S : AS) (a : List UInt8) : AS × Int :=
  if checkOf S.on [a] = 0 then
    match look S.names a with
    | none => (S, 11)
    | some n => ((S.removed a).step, S.stepE)
  else (S, checkOf S.on [a])

theorem m_remove {w : World} {B d N : Nat} {S : AS} (h : Dsk w B d N S) (hN : N + 1 ≤ 1000000000000) (a : List UInt8) (ha : a.length ≤ maxLen) :
    Calls Tryz.prog 164 #[.pointer (some ⟨d, 0, none⟩), .string ⟨a.toArray⟩] w fun e w' => e = .returned (.int .i64 (S.remove a).2) ∧ Dsk w' B d (N + 1) (S.remove a).1 ∧ Below B w w' := by
  obtain ⟨R, hA, hf⟩ := h.mem
  have hlo := h.inv.loose
  unfold AS.remove
  by_cases hE : checkOf S.on [a] = 0
  · rw [if_pos hE]
    cases hn : look S.names a with
    | none =>
      refine (remove_err d a none 11 w (by decide) (find_none d R S a w hA ha hE hn)).mono ?_
      rintro e w' ⟨he, hfr⟩
      exact ⟨he, (h.keep hfr).more (by omega) hN, fr_base h hfr⟩
    | some n =>
      obtain ⟨r, hr⟩ := h.wf.ref a n hn
      refine (remove_some d R S a n r w hA h.wf ha hE hn hr h.size (by omega)).mono ?_
      rintro e w' ⟨he, hP⟩
      exact ⟨he, Dsk.of_post h.base hf hP (h.inv.removed (checkOf_ok hE)).step hN⟩
  · rw [if_neg hE]
    refine (remove_err d a none _ w hE (find_bad d R S a _ w hA ha rfl hE)).mono ?_
    rintro e w' ⟨he, hfr⟩
    exact ⟨he, (h.keep hfr).more (by omega) hN, fr_base h hfr⟩

theorem not_foot {w : World} {d g : Nat} {R : Rp} {S : AS} (hA : At w d R S) {cs : Array Value} {fz : Nat × Nat} (hg : w.heap[g]? = some (.cells cs 3 fz)) : ¬ foot d R S g := by
  have ne : ∀ {t : TypeId} {cs' : Array Value}, w.heap[g]? = some (.cells cs' t (0, 0)) → t ≠ 3 → False := fun h1 h2 => by
    rw [hg] at h1
    injection h1 with h1
    injection h1 with _ h3
    exact h2 h3.symm
  have mp : ∀ {K : TypeId} {E : Value → Option (DU × List MemPlace)} {m : Option Nat} {D : DU}, MapAt w Tryz.prog K E m D → m = some g → False := by
    rintro K E m D hm rfl
    obtain ⟨es, c, he⟩ := owns_map (b := g) hm
    exact map_ne_blk he hg rfl
  rintro (rfl | hk | hk | hk | hk | ⟨n, r, hr, hk⟩)
  · exact ne hA.blk (by decide)
  · exact mp hA.names hk
  · exact mp hA.firm hk
  · exact mp hA.files hk
  · obtain ⟨cur, hc⟩ := own_row hA.loose hk
    exact ne hc (by decide)
  · have hfd := hA.fd n
    rw [hr] at hfd
    rcases hk with rfl | hk
    · exact ne hfd.2.1 (by decide)
    · obtain ⟨cur, hc⟩ := own_row hfd.2.2 hk
      exact ne hc (by decide)

theorem m_crash {w : World} {B d N : Nat} {S : AS} (h : Dsk w B d N S) (g : Nat) (A : Option Addr) (n c : Nat) (ps : List Int) (hp : PicksAt w g A n c ps) (hg : 0 < n → g < B ∨ ∃ cs fz, w.heap[g]? = some (.cells cs 3 fz)) :
    Calls Tryz.prog 22 #[.pointer (some ⟨d, 0, none⟩), .slice A n c] w fun e w' => e = .returned (.tuple #[]) ∧ Dsk w' B d N (S.crashed ps) ∧ Below B w w' := by
  obtain ⟨R, hA, hf⟩ := h.mem
  have hlo := h.inv.loose
  have hbig := h.big
  have hla := h.inv.last
  refine (crash_any d R S g A n c ps w hA hp (fun hn hfo => ?_) (by omega) (fun k hk => by have := (h.inv.good k hk).small; omega) (fun c hc => ?_) (fun k hk => (h.inv.good k hk).ref) (fun n r hr => (h.inv.file n r hr).2.2) (fun m r hr => h.wf.wf hr)).mono ?_
  · rcases hg hn with h1 | ⟨cs, fz, h1⟩
    · have := hf g hfo; omega
    · exact not_foot hA h1 hfo
  · have := h.inv.chs c hc
    exact ⟨by omega, by omega, wf64 (by omega) (by omega)⟩
  · rintro e w' ⟨he, hP⟩
    exact ⟨he, Dsk.of_post h.base hf hP (h.inv.crashed ps) h.big⟩

theorem m_arm {w : World} {B d N : Nat} {S : AS} (h : Dsk w B d N S) (n : Int) (hn : n ≤ 9223372036854775807) :
    Calls Tryz.prog 20 #[.pointer (some ⟨d, 0, none⟩), .int .i64 n] w fun e w' => e = .returned (.tuple #[]) ∧ Dsk w' B d N (S.arm n) ∧ Below B w w' := by
  obtain ⟨R, hA, hf⟩ := h.mem
  refine (arm_any d R S n w hA).mono ?_
  rintro e w' ⟨he, h1, h2⟩
  exact ⟨he, Dsk.of_post h.base hf (PR.own (S := S) h1 h2 rfl).post (h.inv.arm n hn) h.big⟩
theorem m_limit {w : World} {B d N : Nat} {S : AS} (h : Dsk w B d N S) (n : Int) :
    Calls Tryz.prog 25 #[.pointer (some ⟨d, 0, none⟩), .int .i64 n] w fun e w' => e = .returned (.tuple #[]) ∧ Dsk w' B d N (S.limit n) ∧ Below B w w' := by
  obtain ⟨R, hA, hf⟩ := h.mem
  refine (limit_any d R S n w hA).mono ?_
  rintro e w' ⟨he, h1, h2⟩
  exact ⟨he, Dsk.of_post h.base hf (PR.own (S := S) h1 h2 rfl).post (h.inv.limit n) h.big⟩
theorem m_on {w : World} {B d N : Nat} {S : AS} (h : Dsk w B d N S) : Calls Tryz.prog 60 #[.pointer (some ⟨d, 0, none⟩)] w fun e w' => e = .returned (.bool S.on) ∧ w = w' := by
  obtain ⟨R, hA, hf⟩ := h.mem
  exact on_any d R S w hA
theorem m_steps {w : World} {B d N : Nat} {S : AS} (h : Dsk w B d N S) : Calls Tryz.prog 75 #[.pointer (some ⟨d, 0, none⟩)] w fun e w' => e = .returned (.int .i64 S.steps) ∧ w = w' := by
  obtain ⟨R, hA, hf⟩ := h.mem
  exact steps_any d R S w hA
theorem m_used {w : World} {B d N : Nat} {S : AS} (h : Dsk w B d N S) (hon : S.on = true) : Calls Tryz.prog 24 #[.pointer (some ⟨d, 0, none⟩)] w fun e w' => e = .returned (.int .i64 (usedOf S.file S.names)) ∧ Fr No w w' := by
  obtain ⟨R, hA, hf⟩ := h.mem
  obtain ⟨nb, fb, e1, e2⟩ := hA.onn hon
  exact used_any d R S nb w hA h.wf e1 h.size
theorem m_list {w : World} {B d N : Nat} {S : AS} (h : Dsk w B d N S) (hon : S.on = true) :
    Calls Tryz.prog 74 #[.pointer (some ⟨d, 0, none⟩)] w fun e w' => ∃ A c, e = .returned (.slice A (sortedKeys S.names).length c) ∧ w'.ownsRow w.heap.size 9 1 (.slice A (sortedKeys S.names).length c) (sortedKeys S.names).length ((sortedKeys S.names).map encStr) ∧ Fr No w w' := by
  obtain ⟨R, hA, hf⟩ := h.mem
  exact list_on d R S w hA hon h.size
theorem m_new (room : Int) (w : World) (B : Nat) (hB : B ≤ w.heap.size) :
    Calls Tryz.prog 18 #[.int .i64 room] w fun e w' => ∃ d, e = .returned (.pointer (some ⟨d, 0, none⟩)) ∧ Dsk w' B d 0 (AS.new room) ∧ Fr No w w' := by
  refine (new_any room w).mono ?_
  rintro e w' ⟨d, R, he, hA, hfr, hf⟩
  exact ⟨d, he, ⟨inv_new room, ⟨R, hA, fun k hk => by have := hf k hk; omega⟩, by omega, Nat.le_trans hB hfr.size⟩, hfr⟩

end Go.Proofs.YtoaiofjcjjkfaaaGreatDoor
/- The disk's calls, beside whatever blocks X are somebody else's. -/
namespace Go.Proofs.YtoaiofjcjjkfaaaGreatDoor
open Go.RowKit Go.Maps Go.Sort
set_option linter.unusedVariables false

/-- A disk none of whose blocks is among X. -/
structure Dk (w : World) (X : Nat → Prop) (d N : Nat) (S : AS) : Prop where
  inv : Inv N S
  mem : ∃ R, At w d R S ∧ ∀ k, foot d R S k → ¬ X k
  big : N ≤ 1000000000000
  base : ∀ k, X k → k < w.heap.size
theorem Dk.of_post {w w' : World} {X : Nat → Prop} {d M : Nat} {R : Rp} {S S' : AS} (hb : ∀ k, X k → k < w.heap.size) (hf : ∀ k, foot d R S k → ¬ X k) (hP : Post d R S w S' w') (hi : Inv M S') (hM : M ≤ 1000000000000) : Dk w' X d M S' ∧ Fr (fun k => ¬ X k) w w' := by
  obtain ⟨R', P⟩ := hP
  have hbl : Fr (fun k => ¬ X k) w w' := P.fr.mono fun k _ hk => hf k hk
  refine ⟨⟨hi, ⟨R', P.at_, fun k hk => ?_⟩, hM, fun k hk => Nat.lt_of_lt_of_le (hb k hk) hbl.size⟩, hbl⟩
  rcases P.foot k hk with h | h
  · exact hf k h
  · intro hx
    have := hb k hx
    omega
theorem Dk.keep {w w' : World} {X : Nat → Prop} {d N : Nat} {S : AS} (h : Dk w X d N S) (hf : Fr No w w') : Dk w' X d N S := by
  obtain ⟨R, h1, h2⟩ := h.mem
  exact ⟨h.inv, ⟨R, h1.keep hf, h2⟩, h.big, fun k hk => Nat.lt_of_lt_of_le (h.base k hk) hf.size⟩
/-- What turns is X's. -/
theorem Dk.side {w w' : World} {X : Nat → Prop} {d N : Nat} {S : AS} (h : Dk w X d N S) (hf : Fr X w w') : Dk w' X d N S := by
  obtain ⟨R, h1, h2⟩ := h.mem
  exact ⟨h.inv, ⟨R, h1.fr hf fun k hx hk => h2 k hk hx, h2⟩, h.big, fun k hk => Nat.lt_of_lt_of_le (h.base k hk) hf.size⟩
/-- Fewer blocks. -/
theorem Dk.less {w : World} {X Y : Nat → Prop} {d N : Nat} {S : AS} (h : Dk w X d N S) (hXY : ∀ k, Y k → X k) : Dk w Y d N S := by
  obtain ⟨R, h1, h2⟩ := h.mem
  exact ⟨h.inv, ⟨R, h1, fun k hk hy => h2 k hk (hXY k hy)⟩, h.big, fun k hk => h.base k (hXY k hk)⟩
/-- What is new since w is none of the disk's: X grows by it. -/
theorem Dk.grow {w w' : World} {X Y : Nat → Prop} {d N : Nat} {S : AS} (h : Dk w X d N S) (hf : Fr X w w') (hY : ∀ k, Y k → k < w'.heap.size ∧ (X k ∨ w.heap.size ≤ k)) : Dk w' Y d N S := by
  obtain ⟨R, h1, h2⟩ := h.mem
  refine ⟨h.inv, ⟨R, h1.fr hf fun k hx hk => h2 k hk hx, fun k hk hy => ?_⟩, h.big, fun k hk => (hY k hk).1⟩
  rcases (hY k hy).2 with hx | hx
  · exact h2 k hk hx
  · have := h1.lt k hk; omega
theorem Dk.more {w : World} {X : Nat → Prop} {d N M : Nat} {S : AS} (h : Dk w X d N S) (hNM : N ≤ M) (hM : M ≤ 1000000000000) : Dk w X d M S := ⟨h.inv.mono hNM, h.mem, hM, h.base⟩
theorem Dk.wf {w : World} {X : Nat → Prop} {d N : Nat} {S : AS} (h : Dk w X d N S) : WF S := h.inv.wf (by have := h.big; omega)
theorem Dk.size {w : World} {X : Nat → Prop} {d N : Nat} {S : AS} (h : Dk w X d N S) : Maps.size S.names ≤ 1000000 := by have := h.inv.names.small; omega
theorem x_write {w : World} {X : Nat → Prop} {d N : Nat} {S : AS} (h : Dk w X d N S) (hN : N + 1 ≤ 1000000000000) (l : List UInt8) (data : List UInt8) (hl : l.length ≤ maxLen) (hd : data.length ≤ maxLen) :
    Calls Tryz.prog 110 #[.pointer (some ⟨d, 0, none⟩), .string ⟨l.toArray⟩, .string ⟨data.toArray⟩] w fun e w' => e = .returned (.int .i64 (S.write l data).2) ∧ Dk w' X d (N + 1) (S.write l data).1 ∧ Fr (fun k => ¬ X k) w w' := by
  obtain ⟨R, hA, hf⟩ := h.mem
  have hW := h.wf
  have hsz := h.size
  have hsd : (⟨data.toArray⟩ : ByteArray).size = data.length := by simp [ByteArray.size]
  have hlo := h.inv.loose
  have hla := h.inv.last
  have hbig := h.big
  have stay : ∀ {E : Int}, Calls Tryz.prog 110 #[.pointer (some ⟨d, 0, none⟩), .string ⟨l.toArray⟩, .string ⟨data.toArray⟩] w (fun e w' => e = .returned (.int .i64 E) ∧ Fr No w w') →
      Calls Tryz.prog 110 #[.pointer (some ⟨d, 0, none⟩), .string ⟨l.toArray⟩, .string ⟨data.toArray⟩] w fun e w' => e = .returned (.int .i64 E) ∧ Dk w' X d (N + 1) S ∧ Fr (fun k => ¬ X k) w w' := fun hc => by
    refine hc.mono ?_
    rintro e w' ⟨he, hfr⟩
    exact ⟨he, (h.keep hfr).more (by omega) hN, hfr.any⟩
  unfold AS.write
  by_cases hE : checkOf S.on [l] = 0
  · rw [if_pos hE]
    by_cases hful : S.room < usedOf S.file S.names + data.length
    · rw [if_pos hful]
      exact stay (write_full1 d R S l (look S.names l) ⟨data.toArray⟩ w hA hW hl hE rfl hsz (by rw [hsd]; exact hd) (by rw [hsd]; exact hful))
    · rw [if_neg hful]
      cases hn : look S.names l with
      | some n =>
        obtain ⟨r, hr⟩ := hW.ref l n hn
        simp only [hr]
        refine (write_old d R S l n r data w hA hW hl hE hn hr hsz (by omega)).mono ?_
        rintro e w' ⟨he, hP⟩
        have hlen := len_le_used (h.inv.names.canon.canon law9.one) h.inv.names.ints hn hr
        have hroom := h.inv.room
        have hfi := h.inv.file n r hr
        have hi : Inv (N + 1) (S.written n r data).step := ((h.inv.turn hr (r' := { bytes := r.bytes ++ data, firm := r.firm }) (by simp; omega) (by simp; omega)).step).mono (by omega)
        exact ⟨he, Dk.of_post h.base hf hP hi hN⟩
      | none =>
        simp only
        by_cases h64 : 64 ≤ Maps.size S.names
        · rw [if_pos h64]
          exact stay (write_full2 d R S l data w hA hW hl hE hn hsz (by omega) h64)
        · rw [if_neg h64]
          refine (write_new d R S l data w hA hW hl hE hn hsz (by omega) (by omega) (by omega) (by omega)).mono ?_
          rintro e w' ⟨he, hP⟩
          have hm := h.inv.made (checkOf_ok hE) hn (by omega)
          have hroom := h.inv.room
          have hu := @used_nonneg S.file S.names
          have hi := (hm.turn (n := S.last + 1) (r := { bytes := [], firm := 0 }) (upd_same _ _ _) (r' := { bytes := [] ++ data, firm := 0 }) (by simp) (by simp; omega)).step
          exact ⟨he, Dk.of_post h.base hf hP hi hN⟩
  · rw [if_neg hE]
    exact stay (write_bad d R S l ⟨data.toArray⟩ _ w hA hl rfl hE)

theorem x_read {w : World} {X : Nat → Prop} {d N : Nat} {S : AS} (h : Dk w X d N S) (l : List UInt8) (hl : l.length ≤ maxLen) :
    Calls Tryz.prog 73 #[.pointer (some ⟨d, 0, none⟩), .string ⟨l.toArray⟩] w fun e w' => e = .returned (.tuple #[.string ⟨(S.read l).1.toArray⟩, .int .i64 (S.read l).2]) ∧ Fr No w w' := by
  obtain ⟨R, hA, hf⟩ := h.mem
  unfold AS.read
  by_cases hE : checkOf S.on [l] = 0
  · rw [if_pos hE]
    cases hn : look S.names l with
    | none => exact read_none d R S l w hA hl hE hn
    | some n =>
      obtain ⟨r, hr⟩ := h.wf.ref l n hn
      simp only [hr]
      exact read_some d R S l n r w hA h.wf hl hE hn hr
  · rw [if_neg hE]
    exact read_bad d R S l _ w hA hl rfl hE

theorem x_sync {w : World} {X : Nat → Prop} {d N : Nat} {S : AS} (h : Dk w X d N S) (l : List UInt8) (hl : l.length ≤ maxLen) :
    Calls Tryz.prog 112 #[.pointer (some ⟨d, 0, none⟩), .string ⟨l.toArray⟩] w fun e w' => e = .returned (.int .i64 (S.sync l).2) ∧ Dk w' X d N (S.sync l).1 ∧ Fr (fun k => ¬ X k) w w' := by
  obtain ⟨R, hA, hf⟩ := h.mem
  refine (sync_any d R S l w hA h.wf hl).mono ?_
  rintro e w' ⟨he, hP⟩
  refine ⟨he, Dk.of_post h.base hf hP ?_ h.big⟩
  unfold AS.sync
  by_cases hE : checkOf S.on [l] = 0
  · rw [if_pos hE]
    cases hn : look S.names l with
    | none => exact h.inv
    | some n =>
      cases hr : S.file n with
      | none => simp only [hr]; exact h.inv
      | some r =>
        simp only [hr]
        have hst := h.inv.step
        split
        · exact hst.turn (n := n) (r := r) (by rw [(step_same S).2.2.2.1]; exact hr) (r' := { bytes := r.bytes, firm := r.bytes.length }) (Nat.le_refl _) (h.inv.file n r hr).2.2.2
        · exact hst
  · rw [if_neg hE]; exact h.inv

theorem x_settle {w : World} {X : Nat → Prop} {d N : Nat} {S : AS} (h : Dk w X d N S) :
    Calls Tryz.prog 113 #[.pointer (some ⟨d, 0, none⟩)] w fun e w' => e = .returned (.int .i64 S.settle.2) ∧ Dk w' X d N S.settle.1 ∧ Fr (fun k => ¬ X k) w w' := by
  obtain ⟨R, hA, hf⟩ := h.mem
  unfold AS.settle
  by_cases hon : S.on = true
  · rw [if_pos hon]
    rcases stepE_01 S with he | he
    · rw [if_pos he]
      refine (settle_ok d R S w hA h.wf h.size hon he).mono ?_
      rintro e w' ⟨h1, hP⟩
      exact ⟨h1, Dk.of_post h.base hf hP h.inv.step.settled h.big⟩
    · rw [if_neg (by rw [he]; decide)]
      refine (settle_out d R S w hA h.inv.left.2 hon he).mono ?_
      rintro e w' ⟨h1, hP⟩
      exact ⟨h1, Dk.of_post h.base hf hP.post h.inv.step h.big⟩
  · rw [if_neg hon]
    have hoff : S.on = false := by simpa using hon
    refine (settle_off d w (by have := (cells_all hA).2.1; rw [hoff] at this; exact this)).mono ?_
    rintro e w' ⟨h1, rfl⟩
    exact ⟨h1, h, Fr.refl _ _⟩

theorem x_rename {w : World} {X : Nat → Prop} {d N : Nat} {S : AS} (h : Dk w X d N S) (hN : N + 1 ≤ 1000000000000) (a b : List UInt8) (ha : a.length ≤ maxLen) (hb : b.length ≤ maxLen) :
    Calls Tryz.prog 118 #[.pointer (some ⟨d, 0, none⟩), .string ⟨a.toArray⟩, .string ⟨b.toArray⟩] w fun e w' => e = .returned (.int .i64 (S.rename a b).2) ∧ Dk w' X d (N + 1) (S.rename a b).1 ∧ Fr (fun k => ¬ X k) w w' := by
  obtain ⟨R, hA, hf⟩ := h.mem
  have hlo := h.inv.loose
  unfold AS.rename
  by_cases hE : checkOf S.on [a, b] = 0
  · rw [if_pos hE]
    cases hn : look S.names a with
    | none =>
      refine (rename_none d R S a b w hA ha hb hE hn).mono ?_
      rintro e w' ⟨he, hfr⟩
      exact ⟨he, (h.keep hfr).more (by omega) hN, hfr.any⟩
    | some n =>
      simp only
      by_cases hab : a = b
      · subst hab
        rw [if_pos rfl]
        refine (rename_same d R S a n w hA h.wf ha hE hn).mono ?_
        rintro e w' ⟨he, hP⟩
        exact ⟨he, Dk.of_post h.base hf hP.post (h.inv.step.mono (by omega)) hN⟩
      · rw [if_neg hab]
        obtain ⟨r, hr⟩ := h.wf.ref a n hn
        refine (rename_other d R S a b n r w hA h.wf ha hb hab hE hn hr h.size (by omega)).mono ?_
        rintro e w' ⟨he, hP⟩
        have hok := checkOf_ok2 hE
        exact ⟨he, Dk.of_post h.base hf hP (h.inv.renamed hok.1 hok.2 hn).step hN⟩
  · rw [if_neg hE]
    refine (rename_bad d R S a b _ w hA ha hb rfl hE).mono ?_
    rintro e w' ⟨he, hfr⟩
    exact ⟨he, (h.keep hfr).more (by omega) hN, hfr.any⟩

theorem x_remove {w : World} {X : Nat → Prop} {d N : Nat} {S : AS} (h : Dk w X d N S) (hN : N + 1 ≤ 1000000000000) (a : List UInt8) (ha : a.length ≤ maxLen) :
    Calls Tryz.prog 164 #[.pointer (some ⟨d, 0, none⟩), .string ⟨a.toArray⟩] w fun e w' => e = .returned (.int .i64 (S.remove a).2) ∧ Dk w' X d (N + 1) (S.remove a).1 ∧ Fr (fun k => ¬ X k) w w' := by
  obtain ⟨R, hA, hf⟩ := h.mem
  have hlo := h.inv.loose
  unfold AS.remove
  by_cases hE : checkOf S.on [a] = 0
  · rw [if_pos hE]
    cases hn : look S.names a with
    | none =>
      refine (remove_err d a none 11 w (by decide) (find_none d R S a w hA ha hE hn)).mono ?_
      rintro e w' ⟨he, hfr⟩
      exact ⟨he, (h.keep hfr).more (by omega) hN, hfr.any⟩
    | some n =>
      obtain ⟨r, hr⟩ := h.wf.ref a n hn
      refine (remove_some d R S a n r w hA h.wf ha hE hn hr h.size (by omega)).mono ?_
      rintro e w' ⟨he, hP⟩
      exact ⟨he, Dk.of_post h.base hf hP (h.inv.removed (checkOf_ok hE)).step hN⟩
  · rw [if_neg hE]
    refine (remove_err d a none _ w hE (find_bad d R S a _ w hA ha rfl hE)).mono ?_
    rintro e w' ⟨he, hfr⟩
    exact ⟨he, (h.keep hfr).more (by omega) hN, hfr.any⟩

theorem x_crash {w : World} {X : Nat → Prop} {d N : Nat} {S : AS} (h : Dk w X d N S) (g : Nat) (A : Option Addr) (n c : Nat) (ps : List Int) (hp : PicksAt w g A n c ps) (hg : 0 < n → X g ∨ ∃ cs fz, w.heap[g]? = some (.cells cs 3 fz)) :
    Calls Tryz.prog 22 #[.pointer (some ⟨d, 0, none⟩), .slice A n c] w fun e w' => e = .returned (.tuple #[]) ∧ Dk w' X d N (S.crashed ps) ∧ Fr (fun k => ¬ X k) w w' := by
  obtain ⟨R, hA, hf⟩ := h.mem
  have hlo := h.inv.loose
  have hbig := h.big
  have hla := h.inv.last
  refine (crash_any d R S g A n c ps w hA hp (fun hn hfo => ?_) (by omega) (fun k hk => by have := (h.inv.good k hk).small; omega) (fun c hc => ?_) (fun k hk => (h.inv.good k hk).ref) (fun n r hr => (h.inv.file n r hr).2.2) (fun m r hr => h.wf.wf hr)).mono ?_
  · rcases hg hn with h1 | ⟨cs, fz, h1⟩
    · exact hf g hfo h1
    · exact not_foot hA h1 hfo
  · have := h.inv.chs c hc
    exact ⟨by omega, by omega, wf64 (by omega) (by omega)⟩
  · rintro e w' ⟨he, hP⟩
    exact ⟨he, Dk.of_post h.base hf hP (h.inv.crashed ps) h.big⟩

theorem x_arm {w : World} {X : Nat → Prop} {d N : Nat} {S : AS} (h : Dk w X d N S) (n : Int) (hn : n ≤ 9223372036854775807) :
    Calls Tryz.prog 20 #[.pointer (some ⟨d, 0, none⟩), .int .i64 n] w fun e w' => e = .returned (.tuple #[]) ∧ Dk w' X d N (S.arm n) ∧ Fr (fun k => ¬ X k) w w' := by
  obtain ⟨R, hA, hf⟩ := h.mem
  refine (arm_any d R S n w hA).mono ?_
  rintro e w' ⟨he, h1, h2⟩
  exact ⟨he, Dk.of_post h.base hf (PR.own (S := S) h1 h2 rfl).post (h.inv.arm n hn) h.big⟩
theorem x_limit {w : World} {X : Nat → Prop} {d N : Nat} {S : AS} (h : Dk w X d N S) (n : Int) :
    Calls Tryz.prog 25 #[.pointer (some ⟨d, 0, none⟩), .int .i64 n] w fun e w' => e = .returned (.tuple #[]) ∧ Dk w' X d N (S.limit n) ∧ Fr (fun k => ¬ X k) w w' := by
  obtain ⟨R, hA, hf⟩ := h.mem
  refine (limit_any d R S n w hA).mono ?_
  rintro e w' ⟨he, h1, h2⟩
  exact ⟨he, Dk.of_post h.base hf (PR.own (S := S) h1 h2 rfl).post (h.inv.limit n) h.big⟩
theorem x_on {w : World} {X : Nat → Prop} {d N : Nat} {S : AS} (h : Dk w X d N S) : Calls Tryz.prog 60 #[.pointer (some ⟨d, 0, none⟩)] w fun e w' => e = .returned (.bool S.on) ∧ w = w' := by
  obtain ⟨R, hA, hf⟩ := h.mem
  exact on_any d R S w hA
theorem x_steps {w : World} {X : Nat → Prop} {d N : Nat} {S : AS} (h : Dk w X d N S) : Calls Tryz.prog 75 #[.pointer (some ⟨d, 0, none⟩)] w fun e w' => e = .returned (.int .i64 S.steps) ∧ w = w' := by
  obtain ⟨R, hA, hf⟩ := h.mem
  exact steps_any d R S w hA
theorem x_used {w : World} {X : Nat → Prop} {d N : Nat} {S : AS} (h : Dk w X d N S) (hon : S.on = true) : Calls Tryz.prog 24 #[.pointer (some ⟨d, 0, none⟩)] w fun e w' => e = .returned (.int .i64 (usedOf S.file S.names)) ∧ Fr No w w' := by
  obtain ⟨R, hA, hf⟩ := h.mem
  obtain ⟨nb, fb, e1, e2⟩ := hA.onn hon
  exact used_any d R S nb w hA h.wf e1 h.size
theorem x_list {w : World} {X : Nat → Prop} {d N : Nat} {S : AS} (h : Dk w X d N S) (hon : S.on = true) :
    Calls Tryz.prog 74 #[.pointer (some ⟨d, 0, none⟩)] w fun e w' => ∃ A c, e = .returned (.slice A (sortedKeys S.names).length c) ∧ w'.ownsRow w.heap.size 9 1 (.slice A (sortedKeys S.names).length c) (sortedKeys S.names).length ((sortedKeys S.names).map encStr) ∧ Fr No w w' := by
  obtain ⟨R, hA, hf⟩ := h.mem
  exact list_on d R S w hA hon h.size
theorem x_new (room : Int) (w : World) (X : Nat → Prop) (hX : ∀ k, X k → k < w.heap.size) :
    Calls Tryz.prog 18 #[.int .i64 room] w fun e w' => ∃ d, e = .returned (.pointer (some ⟨d, 0, none⟩)) ∧ Dk w' X d 0 (AS.new room) ∧ Fr No w w' := by
  refine (new_any room w).mono ?_
  rintro e w' ⟨d, R, he, hA, hfr, hf⟩
  exact ⟨d, he, ⟨inv_new room, ⟨R, hA, fun k hk hx => by have := hf k hk; have := hX k hx; omega⟩, by omega, fun k hk => Nat.lt_of_lt_of_le (hX k hk) hfr.size⟩, hfr⟩

end Go.Proofs.YtoaiofjcjjkfaaaGreatDoor
