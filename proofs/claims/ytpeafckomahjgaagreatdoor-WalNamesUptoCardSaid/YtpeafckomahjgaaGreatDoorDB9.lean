/- A crash: names first, then bytes. -/
import Derived.Test.YtpeafckomahjgaaGreatDoorDB8
namespace Go.Proofs.YtpeafckomahjgaaGreatDoor
open Go.RowKit Go.Maps Go.Sort
set_option linter.unusedVariables false

/-- The names behind the first k loose changes. -/
def past (S : AS) (k : Nat) : DU := (S.loose.take k).foldl (fun D c => c.app D) S.firm
theorem past_zero (S : AS) : past S 0 = S.firm := rfl
theorem past_succ (S : AS) (k : Nat) (hk : k < S.loose.length) : past S (k + 1) = (S.loose[k]).app (past S k) := by
  unfold past
  rw [List.take_succ_eq_append_getElem hk, List.foldl_append]
  rfl

theorem At.fresh {w w' : World} {d nb : Nat} {R : Rp} {S : AS} (h : At w d R S) (hf : Fr (One d) w w') (hb : Blk w' d 84 (cellsOf S { R with nm := some nb }))
    (ho : w'.ownsMap Tryz.prog 9 (plainElem Tryz.prog 3) nb 0 (.map [] : DU)) (hnb : w.heap.size ≤ nb) : At w' d { R with nm := some nb } { S with names := .map [] } := by
  obtain ⟨a1, a2, a3, a4, a5⟩ := h.apart
  have ne : ∀ k, foot d R S k → k ≠ d → w'.heap[k]? = w.heap[k]? := fun k hk hn => hf.block k (h.lt k hk) hn
  exact {
    blk := hb
    names := ho
    firm := h.firm.of fun b hb => ne _ (.inr (.inr (.inl hb))) (fun e => a2 (e ▸ hb))
    files := h.files.of fun b hb => ne _ (.inr (.inr (.inr (.inl hb)))) (fun e => a3 (e ▸ hb))
    loose := own_of h.loose fun k hk => ne _ (.inr (.inr (.inr (.inr (.inl hk))))) (fun e => a4 (e ▸ hk))
    fd := fun n => (h.fd n).of fun r hr k hk => ne _ (.inr (.inr (.inr (.inr (.inr ⟨n, r, hr, hk⟩))))) (fun e => by
      rcases hk with hk | hk
      · exact (a5 n r hr).1 (hk ▸ e)
      · exact (a5 n r hr).2 (e ▸ hk))
    ne1 := fun k hk e => by
      have := Option.some.inj (show some nb = some k from hk)
      have := h.firm.lt k e
      omega
    ne2 := fun k hk e => by
      have := Option.some.inj (show some nb = some k from hk)
      have := h.files.lt k e
      omega
    ne3 := h.ne3
    ap := h.ap
    onn := fun ho => by obtain ⟨b, c, e1, e2⟩ := h.onn ho; exact ⟨nb, c, rfl, e2⟩ }
theorem PR.fresh {w w' : World} {d nb : Nat} {R : Rp} {S : AS} (h : At w d R S) (hf : Fr (One d) w w') (hb : Blk w' d 84 (cellsOf S { R with nm := some nb }))
    (ho : w'.ownsMap Tryz.prog 9 (plainElem Tryz.prog 3) nb 0 (.map [] : DU)) (hnb : w.heap.size ≤ nb) : PR d R S w { R with nm := some nb } { S with names := .map [] } w' := by
  refine ⟨h.fresh hf hb ho hnb, hf.mono fun k _ hk => .inl hk, fun k hk => ?_⟩
  rcases hk with hk | hk | hk | hk | hk | hk
  · exact .inl (.inl hk)
  · exact .inr (by have := Option.some.inj (show some nb = some k from hk); omega)
  · exact .inl (.inr (.inr (.inl hk)))
  · exact .inl (.inr (.inr (.inr (.inl hk))))
  · exact .inl (.inr (.inr (.inr (.inr (.inl hk)))))
  · exact .inl (.inr (.inr (.inr (.inr (.inr hk)))))
theorem PR.named {w w' : World} {d b : Nat} {R : Rp} {S : AS} (h : At w d R S) (hnm : R.nm = some b) {D : DU} (hf : Fr (One b) w w') (ho : w'.ownsMap Tryz.prog 9 (plainElem Tryz.prog 3) b (Maps.size D) D) :
    PR d R S w R { S with names := D } w' :=
  ⟨h.named hnm hf ho, hf.mono fun k _ hk => .inr (.inl (by rw [hnm, show k = b from hk])), fun k hk => .inl hk⟩

theorem flat_at : ∀ (L : List Ch) (i : Nat) (hi : i < L.length) (j : Nat), j < 3 → (L.flatMap Ch.cells)[i * 3 + j]? = (L[i].cells)[j]?
  | [], i, hi, _, _ => by simp at hi
  | c :: L, 0, _, j, hj => by
    rw [List.flatMap_cons, Nat.zero_mul, Nat.zero_add, List.getElem?_append_left (by simp [Ch.cells]; omega)]
    rfl
  | c :: L, i + 1, hi, j, hj => by
    rw [List.flatMap_cons, List.getElem?_append_right (by simp [Ch.cells]; omega)]
    have e : (i + 1) * 3 + j - c.cells.length = i * 3 + j := by simp [Ch.cells]; omega
    rw [e, flat_at L i (by simpa using hi) j hj]
    rfl

theorem loose_at {w : World} {lA : Option Addr} {lc : Nat} {L : List Ch} (h : w.ownsRow 0 108 3 (.slice lA L.length lc) L.length (L.flatMap Ch.cells)) {i : Nat} (hi : i < L.length) :
    ∃ gl, lA = some ⟨gl, 0, none⟩ ∧ L.length ≤ lc ∧ w.cell? ⟨gl, i * 3, none⟩ = some (.string ⟨(L[i]).frm.toArray⟩) ∧ w.cell? ⟨gl, i * 3 + 1, none⟩ = some (.string ⟨(L[i]).to.toArray⟩) ∧ w.cell? ⟨gl, i * 3 + 2, none⟩ = some (.int .i64 (L[i]).file) := by
  rcases h.2 with ⟨_, h0⟩ | ⟨gl, cap, cur, e, _, hh, hn, _⟩
  · omega
  · cases e
    have hc := h.cells (g := gl) rfl
    have add : ∀ m, ((⟨gl, 0, none⟩ : Addr).add m) = ⟨gl, m, none⟩ := fun m => by unfold Addr.add; split <;> simp_all
    refine ⟨gl, rfl, hn, ?_, ?_, ?_⟩
    · have := hc (i * 3) _ ((flat_at L i hi 0 (by omega)).trans rfl); rw [add] at this; exact this
    · have := hc (i * 3 + 1) _ ((flat_at L i hi 1 (by omega)).trans rfl); rw [add] at this; exact this
    · have := hc (i * 3 + 2) _ ((flat_at L i hi 2 (by omega)).trans rfl); rw [add] at this; exact this

/-- The names of a table, rising. -/
def sortedKeys (D : DU) : List (List UInt8) := (strKeys D).mergeSort (fun x y => decide (x ≤ y))
/-- One file of a crash. -/
def crashStep (D : DU) (st : (Int → Option FR) × List Int) (l : List UInt8) : (Int → Option FR) × List Int :=
  match look D l with
  | some n => match st.1 n with
    | some r => (upd st.1 n (some (r.crash st.2)), r.rest st.2)
    | none => st
  | none => st
def crashTo (D : DU) (f : Int → Option FR) (ps : List Int) (k : Nat) : (Int → Option FR) × List Int := ((sortedKeys D).take k).foldl (crashStep D) (f, ps)
theorem crashTo_zero (D : DU) (f : Int → Option FR) (ps : List Int) : crashTo D f ps 0 = (f, ps) := rfl
theorem crashTo_succ (D : DU) (f : Int → Option FR) (ps : List Int) (k : Nat) (hk : k < (sortedKeys D).length) : crashTo D f ps (k + 1) = crashStep D (crashTo D f ps k) ((sortedKeys D)[k]) := by
  unfold crashTo
  rw [List.take_succ_eq_append_getElem hk, List.foldl_append]
  rfl
theorem crashStep_some {D : DU} {st : (Int → Option FR) × List Int} {l : List UInt8} {n : Int} {r : FR} (hn : look D l = some n) (hr : st.1 n = some r) : crashStep D st l = (upd st.1 n (some (r.crash st.2)), r.rest st.2) := by
  unfold crashStep; simp only [hn, hr]
theorem crashStep_isSome (D : DU) (st : (Int → Option FR) × List Int) (l : List UInt8) (m : Int) : ((crashStep D st l).1 m).isSome = (st.1 m).isSome := by
  unfold crashStep
  cases look D l with
  | none => rfl
  | some n =>
    cases hr : st.1 n with
    | none => simp only [hr]
    | some r =>
      simp only [hr]
      by_cases e : m = n
      · subst e; rw [upd_same, hr]; rfl
      · rw [upd_other _ _ e]
theorem crashTo_isSome (D : DU) (f : Int → Option FR) (ps : List Int) (m : Int) : ∀ k, ((crashTo D f ps k).1 m).isSome = (f m).isSome := by
  intro k
  unfold crashTo
  have : ∀ (ls : List (List UInt8)) (st : (Int → Option FR) × List Int), ((ls.foldl (crashStep D) st).1 m).isSome = (st.1 m).isSome := by
    intro ls
    induction ls with
    | nil => intro st; rfl
    | cons l ls ih => intro st; rw [List.foldl_cons, ih, crashStep_isSome]
  exact this _ _

theorem crashTo_len (D : DU) (f : Int → Option FR) (ps : List Int) : ∀ k, (crashTo D f ps k).2.length ≤ ps.length := by
  intro k
  unfold crashTo
  have : ∀ (ls : List (List UInt8)) (st : (Int → Option FR) × List Int), (ls.foldl (crashStep D) st).2.length ≤ st.2.length := by
    intro ls
    induction ls with
    | nil => intro st; exact Nat.le_refl _
    | cons l ls ih =>
      intro st
      refine Nat.le_trans (ih _) ?_
      unfold crashStep
      cases look D l with
      | none => exact Nat.le_refl _
      | some n =>
        cases hr : st.1 n with
        | none => simp only [hr]; exact Nat.le_refl _
        | some r =>
          simp only [hr, FR.rest]
          split
          · rw [List.length_tail]; omega
          · exact Nat.le_refl _
  exact this _ _

/-- A crash, as the document has it. -/
def AS.crashed (S : AS) (ps : List Int) : AS :=
  AS.arm { AS.settled { S with names := past S (pickN ps (S.loose.length : Int)).toNat, file := ((sortedKeys (past S (pickN ps (S.loose.length : Int)).toNat)).foldl (crashStep (past S (pickN ps (S.loose.length : Int)).toNat)) (S.file, ps.tail)).1 } with on := true } (-1)

/-- What holds of each file's size. -/
def Sane (f : Int → Option FR) : Prop := ∀ n r, f n = some r → r.firm ≤ r.bytes.length ∧ r.bytes.length ≤ 16777216
theorem FR.crash_sane (r : FR) (ps : List Int) (h : r.firm ≤ r.bytes.length ∧ r.bytes.length ≤ 16777216) : (r.crash ps).firm ≤ (r.crash ps).bytes.length ∧ (r.crash ps).bytes.length ≤ 16777216 := by
  unfold FR.crash
  split
  · have := pickN_bd ps ((r.bytes.length : Int) - r.firm) (by omega)
    simp only [List.length_take]
    omega
  · simp; omega
theorem Sane.step {D : DU} {st : (Int → Option FR) × List Int} (h : Sane st.1) (l : List UInt8) : Sane (crashStep D st l).1 := by
  unfold crashStep
  cases look D l with
  | none => exact h
  | some n =>
    cases hr : st.1 n with
    | none => simp only [hr]; exact h
    | some r =>
      simp only [hr]
      intro m q hq
      by_cases e : m = n
      · subst e
        rw [upd_same] at hq
        cases hq
        exact r.crash_sane _ (h m r hr)
      · rw [upd_other _ _ e] at hq
        exact h m q hq

theorem keys_look {w : World} {b m : Nat} {D : DU} (ho : w.ownsMap Tryz.prog 9 (plainElem Tryz.prog 3) b m D) {l : List UInt8} (hl : l ∈ sortedKeys D) : ∃ n, look D l = some n ∧ l.length ≤ maxLen := by
  have hm : l ∈ strKeys D := (List.mergeSort_perm _ _).mem_iff.1 hl
  obtain ⟨es, rfl, hk⟩ := ho.keysOf
  obtain ⟨p, hp, e⟩ := List.mem_map.1 (show l ∈ es.map fun p => strOf p.1 from hm)
  obtain ⟨v, hv⟩ := hk p hp
  obtain ⟨x, _, hx, hxl⟩ := Maps.keyOf_str Tryz.underlying9 hv
  have hlx : l = x := by rw [← e, hx]; rfl
  subst hlx
  have hh : has (.map es : DU) (.string l) = true := by
    rw [has_eq, List.any_eq_true]
    exact ⟨p, hp, by rw [hx]; exact WideAt.sameKey_self (isKey l)⟩
  obtain ⟨n, hn⟩ := owns_ints ho l hh
  exact ⟨n, by unfold look; rw [hn .nil], hxl⟩

theorem crash_nil (A : Option Addr) (n c : Nat) (w : World) : Calls Tryz.prog 23 #[.pointer none, .slice A n c] w fun e w' => e = .returned (.tuple #[]) ∧ w = w' := by
  go_enter Tryz.func23, Tryz.ntmps23
  go_wp2
  exact bodyPost_ret (results_none rfl _ _ _) rfl ⟨rfl, rfl⟩

set_option maxRecDepth 100000 in
set_option maxHeartbeats 4000000 in
theorem crash_any (d : Nat) (R : Rp) (S : AS) (g : Nat) (A : Option Addr) (n c : Nat) (ps : List Int) (w : World) (h : At w d R S) (hp : PicksAt w g A n c ps) (hpg : 0 < n → ¬ foot d R S g) (hll : S.loose.length < 3000000000000) (hps : ∀ k, k ≤ S.loose.length → Maps.size (past S k) ≤ 1000000) (hch : ∀ c ∈ S.loose, c.frm.length ≤ 1000 ∧ c.to.length ≤ 1000 ∧ (Lit.int .i64 c.file).wf = true)
    (href : ∀ k, k ≤ S.loose.length → ∀ l m, look (past S k) l = some m → ∃ r, S.file m = some r) (hsane : Sane S.file) (hfwf : ∀ m r, S.file m = some r → (Lit.int .i64 m).wf = true) :
    Calls Tryz.prog 23 #[.pointer (some ⟨d, 0, none⟩), .slice A n c] w fun e w' => e = .returned (.tuple #[]) ∧ Post d R S w (S.crashed ps) w' := by
  obtain ⟨c0, c1, c2, c3, c4, c5, c6, c7, c8, c9⟩ := cells_all h
  obtain ⟨lA, lc, hlv⟩ := len_row h.loose
  rw [hlv] at c7
  have z5 := h.blk.frozen 5
  have hmm := @run_makeMap Tryz.prog
  have H := Lib.hid h
  have HP := Lib.hid hp
  have HLV := Lib.hid hlv
  have HPG := Lib.hid hpg
  have HSANE := Lib.hid hsane
  have HREF := Lib.hid href
  have HFWF := Lib.hid hfwf
  clear h hp hlv hpg hsane href hfwf
  go_enter Tryz.func23, Tryz.ntmps23
  go_wp2_with fail
  refine (pick_any g A n c ps _ _ HP.out (by omega) (by omega)).mono ?_
  rintro e w1 ⟨A1, n1, c1', k1, rfl, hw1, hp1⟩
  have P1 : PR d R S w R S w1 := by rw [hw1]; exact PR.same H.out ((Fr.refl _ _).drewN _)
  have hp1' : PicksAt w1 g A1 n1 c1' ps.tail := hp1.of fun _ => by rw [hw1]; rfl
  have hs1 : w1.heap.size = w.heap.size := by rw [hw1]; rfl
  obtain ⟨st0, st1⟩ := pickN_bd ps (S.loose.length : Int) (by omega)
  obtain ⟨stay, hstay⟩ : ∃ stay : Nat, pickN ps (S.loose.length : Int) = stay := ⟨(pickN ps (S.loose.length : Int)).toNat, by omega⟩
  rw [hstay] at st0 st1 ⊢
  have d5 := (cells_all P1.at_).2.2.2.2.2.1
  have y5 := P1.at_.blk.frozen 5
  have hdl := P1.at_.blk.lt
  have y5' : (w1.alloc (.map #[] 0)).frozen? ⟨d, 5, none⟩ = false := (P1.at_.alloc _).blk.frozen 5
  have d5' : (w1.alloc (.map #[] 0)).cell? ⟨d, 5, none⟩ = some (.map R.nm) := (cells_all (P1.at_.alloc _)).2.2.2.2.2.1
  have HP1 := Lib.hid P1
  have HPK1 := Lib.hid hp1'
  have hpk0 : PicksAt w g A1 n1 c1' ps.tail := hp1
  have hg0 : 0 < ps.tail.length → g < w.heap.size ∧ ¬ foot d R S g := fun hn => by
    have h0 : 0 < n := by have := HP.out.len; rw [List.length_tail] at hn; omega
    exact ⟨HP.out.lt h0, HPG.out h0⟩
  have HG0 := Lib.hid hg0
  have HPK0 := Lib.hid hpk0
  clear hpk0 hg0
  have HST := Lib.hid hstay
  clear hw1 hp1 hp1' P1 c0 c1 c2 c3 c4 c5 c6 c7 c8 c9 z5 hstay
  obtain ⟨w2, hw2⟩ : ∃ w2, (w1.alloc (.map #[] 0)).setCell ⟨d, 5, none⟩ (.map (some w.heap.size)) = w2 := ⟨_, rfl⟩
  have P2 : PR d R S w { R with nm := some w.heap.size } { S with names := .map [] } w2 := by
    refine HP1.out.trans (PR.fresh HP1.out.at_ ?_ ?_ ?_ (by omega))
    · rw [← hw2]; exact ((Fr.refl _ _).alloc _).set1 5 _
    · rw [← hw2]
      exact (Blk.of HP1.out.at_.blk (Below.heap_alloc _ _ d hdl)).set_ 5 _
    · rw [← hw2]
      have q := World.ownsMap_made (H := Unit) w1 Tryz.prog 9 (plainElem Tryz.prog 3)
      rw [hs1] at q
      exact q.setCell (by have := H.out.blk.lt; simp; omega) _
  have h2 := P2.at_
  have e5 := (cells_all h2).2.2.2.2.2.1
  have e6 := (cells_all h2).2.2.2.2.2.2.1
  have hnm2 : w2.ownsMap Tryz.prog 9 (plainElem Tryz.prog 3) w.heap.size 0 (.map [] : DU) := h2.names
  have hcopy := copy_new (plainElem Tryz.prog 3) w.heap.size R.fm S.firm w2.drew hnm2 h2.firm (fun e => by have := h2.ne1 w.heap.size rfl; exact this e) (by have := hps 0 (Nat.zero_le _); rw [past_zero] at this; unfold maxLen; omega)
  have HP2 := Lib.hid P2
  have HCP := Lib.hid hcopy
  clear P2 h2 hnm2 hcopy
  go_wp2_with fail
  go_still_tail 8, (by kernel_rfl)
  change wpList _ _ _ _ _ (World.drew _)
  go_wp2_with fail
  refine HCP.out.mono ?_
  rintro e w3 ⟨rfl, ho3, hg3⟩
  have P3 : PR d R S w { R with nm := some w.heap.size } { S with names := past S 0 } w3 :=
    HP2.out.trans (PR.named (D := S.firm) HP2.out.at_ rfl (((Fr.refl _ w2).drew).grown hg3 (fun k hk _ => by cases hk; rfl)) ho3)
  have q7 := (cells_all P3.at_).2.2.2.2.2.2.2.1
  have q7' : w3.cell? ⟨d, 7, none⟩ = some (.slice lA S.loose.length lc) := by rw [q7]; exact congrArg some HLV.out
  have hcap : S.loose.length ≤ lc ∧ (0 < S.loose.length → ∃ gl, lA = some ⟨gl, 0, none⟩) := by
    have := H.out.loose
    rw [HLV.out] at this
    rcases this.2 with ⟨e, h0⟩ | ⟨gl, cap, cur, e, _, _, hn, _⟩
    · exact ⟨by omega, fun h => by omega⟩
    · cases e; exact ⟨hn, fun _ => ⟨gl, rfl⟩⟩
  have hcap1 := hcap.1
  have hs3 : (stay : Int) ≤ (lc : Int) := by omega
  have HP3 := Lib.hid P3
  have HCAP := Lib.hid hcap
  clear hg3 ho3 P3 q7 hcap HP2 HCP e5 e6 hw2 HP1
  go_wp2_with fail
  go_loopw [6, 41] (fun _ i wr => ∃ k : Nat, k ≤ stay ∧ i = .int .i64 k ∧ PR d R S w { R with nm := some w.heap.size } { S with names := past S k } wr) (fun _ i _ => stay - (intOf i).toNat)
  case atStart => exact ⟨0, Nat.zero_le _, rfl, HP3.out⟩
  case round =>
    obtain ⟨k, hk, rfl, P⟩ := hrel
    by_cases hlt : k < stay
    · obtain ⟨gl, rfl⟩ := HCAP.out.2 (by omega)
      have hkl : k < S.loose.length := by omega
      have hlo := P.at_.loose
      have hlo' : wr.ownsRow 0 108 3 (.slice (some ⟨gl, 0, none⟩) S.loose.length lc) S.loose.length (S.loose.flatMap Ch.cells) := by
        have e : ({ R with nm := some w.heap.size } : Rp).lv = _ := HLV.out
        rw [e] at hlo; exact hlo
      obtain ⟨gl', e', _, m0, m1, m2⟩ := loose_at hlo' hkl
      cases e'
      obtain ⟨w4, hw4⟩ : ∃ w4, wr.alloc (.cells #[.string ⟨(S.loose[k]).frm.toArray⟩, .string ⟨(S.loose[k]).to.toArray⟩, .int .i64 (S.loose[k]).file] 108) = w4 := ⟨_, rfl⟩
      have f4 : Fr No wr w4 := by rw [← hw4]; exact (Fr.refl _ wr).alloc _
      have P4 := P.trans (PR.same P.at_ f4)
      have hbk : Blk w4 wr.heap.size 108 #[.string ⟨(S.loose[k]).frm.toArray⟩, .string ⟨(S.loose[k]).to.toArray⟩, .int .i64 (S.loose[k]).file] := by rw [← hw4]; exact Blk.new wr 108 _
      have n0 : w4.cell? ⟨wr.heap.size, 0, none⟩ = some (.string ⟨(S.loose[k]).frm.toArray⟩) := hbk.cell 0
      have n1 : w4.cell? ⟨wr.heap.size, 1, none⟩ = some (.string ⟨(S.loose[k]).to.toArray⟩) := hbk.cell 1
      have n2 : w4.cell? ⟨wr.heap.size, 2, none⟩ = some (.int .i64 (S.loose[k]).file) := hbk.cell 2
      have p5 : w4.cell? ⟨d, 5, none⟩ = some (.map (some w.heap.size)) := (cells_all P4.at_).2.2.2.2.2.1
      have hown4 : w4.ownsMap Tryz.prog 9 (plainElem Tryz.prog 3) w.heap.size (Maps.size (past S k)) (past S k) := P4.at_.names
      have hc := hch (S.loose[k]) (List.getElem_mem hkl)
      have happ := apply_any (S.loose[k]) w.heap.size _ (past S k) _ (World.ownsMap.drew hown4) (by have := hc.1; unfold maxLen; omega) (by have := hc.2.1; unfold maxLen; omega) (by have := hps k (by omega); unfold maxLen; omega) hc.2.2
      have HA := Lib.hid happ
      have HP4 := Lib.hid P4
      clear P hlo hlo' HP3 f4 P4 hbk hown4 hc happ
      go_wp2_with fail
      clear hw4
      go_still_tail 5, (by kernel_rfl)
      change wpList _ _ _ _ _ (World.drew _)
      go_wp2_with fail
      refine HA.out.mono ?_
      rintro e w5 ⟨rfl, ho5, hf5⟩
      have P5 : PR d R S w { R with nm := some w.heap.size } { S with names := past S (k + 1) } w5 := by
        rw [past_succ S k hkl]
        exact HP4.out.trans (PR.named (D := (S.loose[k]).app (past S k)) HP4.out.at_ rfl ⟨hf5.os, hf5.tape, hf5.output, hf5.size, hf5.block⟩ ho5)
      have HP5 := Lib.hid P5
      clear ho5 hf5 P5 HP4 HA
      go_wp2
      go_roundw
      case rel => exact ⟨k + 1, by omega, by go_num, HP5.out⟩
      case measure => simp [intOf]; omega
    · obtain rfl : k = stay := by omega
      have p5 := (cells_all P.at_).2.2.2.2.2.1
      have p5' : wr.cell? ⟨d, 5, none⟩ = some (.map (some w.heap.size)) := p5
      have hnms : wr.ownsMap Tryz.prog 9 (plainElem Tryz.prog 3) w.heap.size (Maps.size (past S k)) (past S k) := P.at_.names
      have hsz := hps k (by omega)
      have hsrt := sorted_any w.heap.size _ (past S k) (plainElem Tryz.prog 3) wr hnms (by unfold maxLen; omega) (by omega)
      have HS := Lib.hid hsrt
      have HPP := Lib.hid P
      have HNM := Lib.hid hnms
      clear P p5 hnms hsrt HP3 hs3 q7' hmm
      go_wp2_with fail
      refine HS.out.mono ?_
      rintro e w6 ⟨v, ss, rfl, hperm, hrow, hnil, hb6⟩
      have P6 := HPP.out.trans (PR.same HPP.out.at_ (Fr.of_below hb6))
      have hkeys : ss.mergeSort (fun x y => decide (x ≤ y)) = sortedKeys (past S k) := mergeSort_of_perm hperm
      have hlen : ss.length = (sortedKeys (past S k)).length := by rw [← hkeys, List.length_mergeSort]
      rw [hkeys] at hrow
      obtain ⟨kA, kc, rfl⟩ := len_row hrow
      rw [hlen] at hrow ⊢
      have hkrow : w6.ownsRow 0 9 1 (.slice kA (sortedKeys (past S k)).length kc) (sortedKeys (past S k)).length ((sortedKeys (past S k)).map encStr) := own_base hrow (Nat.zero_le _)
      have hkmax : (sortedKeys (past S k)).length ≤ 1000000 := by
        unfold sortedKeys
        rw [List.length_mergeSort]
        have : (strKeys (past S k)).length = Maps.size (past S k) := by
          obtain ⟨es, he⟩ := HNM.out.isMap
          rw [he]; simp [strKeys, Maps.size]
        omega
      have HK := Lib.hid hkrow
      have HP6 := Lib.hid P6
      clear hperm hrow hnil hb6 P6 hkeys hlen hkrow HS
      go_wp2_with fail
      go_loopw [1, 58] (fun pv iv wz => ∃ (i : Nat) (R2 : Rp) (A2 : Option Addr) (n2 c2 : Nat), i ≤ (sortedKeys (past S k)).length ∧ iv = .int .i64 i ∧ pv = .slice A2 n2 c2 ∧ PicksAt wz g A2 n2 c2 (crashTo (past S k) S.file ps.tail i).2 ∧
          PR d R S w R2 { S with names := past S k, file := (crashTo (past S k) S.file ps.tail i).1 } wz ∧ R2.nm = some w.heap.size ∧ wz.ownsRow 0 9 1 (.slice kA (sortedKeys (past S k)).length kc) (sortedKeys (past S k)).length ((sortedKeys (past S k)).map encStr) ∧ Sane (crashTo (past S k) S.file ps.tail i).1)
        (fun _ iv _ => (sortedKeys (past S k)).length - (intOf iv).toNat)
      case atStart =>
        have hpk6 : PicksAt w6 g A1 n1 c1' ps.tail := HPK0.out.fr HP6.out.fr fun hn => (HG0.out (by have := HPK0.out.len; omega)).2
        exact ⟨0, _, A1, n1, c1', Nat.zero_le _, rfl, rfl, hpk6, HP6.out, rfl, HK.out, HSANE.out⟩
      case round =>
        obtain ⟨i, R2, A2, n2, c2, hi, rfl, rfl, hpk, P, hnm2, hkr, hsn⟩ := hrel
        by_cases hil : i < (sortedKeys (past S k)).length
        · obtain ⟨cn, hcn, hcl⟩ := keys_look HNM.out (List.getElem_mem hil)
          obtain ⟨r0, hr0⟩ := HREF.out k (by omega) _ _ hcn
          have hcw := HFWF.out cn r0 hr0
          have his := crashTo_isSome (past S k) S.file ps.tail cn i
          rw [hr0] at his
          obtain ⟨r, hr⟩ := Option.isSome_iff_exists.1 his
          have hr' : ({ S with names := past S k, file := (crashTo (past S k) S.file ps.tail i).1 } : AS).file cn = some r := hr
          obtain ⟨fb, hfb⟩ := P.at_.fbs hr'
          have hfl := P.at_.files
          rw [hfb] at hfl
          have hfd := P.at_.fd cn
          rw [hr'] at hfd
          obtain ⟨hfa, hfbk, hfo⟩ := hfd
          have hdr : At wr.drew d R2 { S with names := past S k, file := (crashTo (past S k) S.file ps.tail i).1 } := P.at_.keep (Fr.refl _ wr).drew
          have hflz := hdr.files
          rw [hfb] at hflz
          have hnmz := hdr.names
          rw [hnm2] at hnmz
          have hrunA := run_look1_some (b := w.heap.size) hnmz hcl hcn
          have hrunB := run_file (b := fb) hflz hcw hfa
          have z5 := (cells_all P.at_).2.2.2.2.2.1
          rw [hnm2] at z5
          have z8 := (cells_all P.at_).2.2.2.2.2.2.2.2.1
          rw [hfb] at z8
          obtain ⟨gk, hgk⟩ : ∃ gk, kA = some ⟨gk, 0, none⟩ ∧ (sortedKeys (past S k)).length ≤ kc := by
            rcases hkr.2 with ⟨_, h0⟩ | ⟨gk, cap, cur, e, _, _, hn, _⟩
            · omega
            · cases e; exact ⟨gk, rfl, hn⟩
          obtain ⟨rfl, hkc⟩ := hgk
          have hkcell : wr.cell? ⟨gk, i, none⟩ = some (.string ⟨((sortedKeys (past S k))[i]).toArray⟩) := by
            have := hkr.cells (g := gk) rfl i (encStr ((sortedKeys (past S k))[i])) (by simp [List.getElem?_eq_getElem hil])
            have add : ((⟨gk, 0, none⟩ : Addr).add i) = ⟨gk, i, none⟩ := by unfold Addr.add; split <;> simp_all
            rw [add] at this
            exact this
          have hsr := hsn cn r hr
          have hfc := fcrash_any (R2.rc cn).1 (R2.rc cn).2 r g A2 n2 c2 (crashTo (past S k) S.file ps.tail i).2 wr.drew hfbk hfo hsr.2 hsr.1 (hpk.of fun _ => rfl) (fun hn => by
            intro e
            have hl := crashTo_len (past S k) S.file ps.tail i
            have := HG0.out (by have := hpk.len; omega)
            rcases P.foot (R2.rc cn).1 (.inr (.inr (.inr (.inr (.inr ⟨cn, r, hr', .inl rfl⟩))))) with hf | hf
            · exact this.2 (e ▸ hf)
            · omega)
          have HFC := Lib.hid hfc
          have HPP2 := Lib.hid P
          have HKR := Lib.hid hkr
          have HSN := Lib.hid hsn
          have HR := Lib.hid hr
          have HR' := Lib.hid hr'
          have HCN := Lib.hid hcn
          have HNM2 := Lib.hid hnm2
          have HFO := Lib.hid hfo
          have HFBK := Lib.hid hfbk
          clear hfc P hkr hsn hr hr' hcn hnm2 hfo hfbk hfa hfl hflz hnmz hdr his hr0 hpk HK HP6 HPK0 HSANE HNM HREF HFWF
          go_wp2_with fail
          go_still_tail 12, (by kernel_rfl)
          change wpList _ _ _ _ _ (World.drew _)
          go_wp2_with fail
          refine HFC.out.mono ?_
          rintro e w7 ⟨A3, n3, c3, v3, rfl, hpk3, hf3, hb3, ho3, hv3⟩
          have P7 := HPP2.out.trans (PR.file (r' := r.crash (crashTo (past S k) S.file ps.tail i).2) HPP2.out.at_ HR'.out
            (Fr.mono (F := One (R2.rc cn).1) ⟨hf3.os, hf3.tape, hf3.output, hf3.size, hf3.block⟩ (fun k _ hk => .inl hk)) hb3 ho3 fun k hk => .inl (hv3 ▸ hk))
          have hstep : crashTo (past S k) S.file ps.tail (i + 1) = (upd (crashTo (past S k) S.file ps.tail i).1 cn (some (r.crash (crashTo (past S k) S.file ps.tail i).2)), r.rest (crashTo (past S k) S.file ps.tail i).2) := by
            rw [crashTo_succ _ _ _ i hil, crashStep_some HCN.out HR.out]
          have hsn7 : Sane (crashTo (past S k) S.file ps.tail (i + 1)).1 := by rw [crashTo_succ _ _ _ i hil]; exact HSN.out.step _
          have hkr7 : w7.ownsRow 0 9 1 (.slice (some ⟨gk, 0, none⟩) (sortedKeys (past S k)).length kc) (sortedKeys (past S k)).length ((sortedKeys (past S k)).map encStr) :=
            own_of HKR.out fun j hj => hf3.block j ((HKR.out.lt j hj).2) (own_blk_ne HKR.out hj HFBK.out (by decide))
          have HP7 := Lib.hid P7
          have HSTEP := Lib.hid hstep
          have HSN7 := Lib.hid hsn7
          have HKR7 := Lib.hid hkr7
          have HPK3 := Lib.hid hpk3
          clear P7 hstep hsn7 hkr7 hpk3 hf3 hb3 ho3 hv3 HPP2 HSN HKR HFBK HFO HFC
          go_wp2
          go_roundw
          case rel =>
            have hst := HSTEP.out
            refine ⟨i + 1, { R2 with rc := upd R2.rc cn ((R2.rc cn).1, v3) }, A3, n3, c3, by omega, by go_num, rfl, ?_, ?_, HNM2.out, HKR7.out, HSN7.out⟩
            · rw [hst]; exact HPK3.out
            · rw [hst]; exact HP7.out
          case measure => simp [intOf]; omega
        · obtain rfl : i = (sortedKeys (past S k)).length := by omega
          have hend : crashTo (past S k) S.file ps.tail (sortedKeys (past S k)).length = (sortedKeys (past S k)).foldl (crashStep (past S k)) (S.file, ps.tail) := by
            unfold crashTo; rw [List.take_length]
          have hrf : ∀ l n, look (past S k) l = some n → ∃ r, (crashTo (past S k) S.file ps.tail (sortedKeys (past S k)).length).1 n = some r := fun l n hln => by
            obtain ⟨r, hr⟩ := HREF.out k (by omega) l n hln
            have his := crashTo_isSome (past S k) S.file ps.tail n (sortedKeys (past S k)).length
            rw [hr] at his
            exact Option.isSome_iff_exists.1 his
          have hset := settle_any d R2 _ w.heap.size wr P.at_ hrf hnm2 hsz
          have HSET := Lib.hid hset
          have HPP := Lib.hid P
          clear hset P hnm2 hkr hsn hpk hrf hend
          go_wp2_with fail
          refine HSET.out.mono ?_
          rintro e w8 ⟨rfl, R8, P8, nb8, fb8, hnb8, hfb8⟩
          have P9 := HPP.out.trans P8
          have x1 := (cells_all P9.at_).2.1
          have y1 := P9.at_.blk.frozen 1
          have HP9 := Lib.hid P9
          clear P8 P9 HSET HPP
          go_wp2_with fail
          have P10 := HP9.out.trans (PR.own (S' := { AS.settled { S with names := past S k, file := (crashTo (past S k) S.file ps.tail (sortedKeys (past S k)).length).1 } with on := true })
            (HP9.out.at_.own (Fr.set0 d w8 1 (.bool true)) (HP9.out.at_.blk.set_ 1 _) rfl rfl rfl rfl (fun _ => ⟨nb8, fb8, hnb8, hfb8⟩)) (Fr.set0 d w8 1 (.bool true)) rfl)
          refine (arm_any d R8 _ (-1) _ P10.at_).mono ?_
          rintro e w9 ⟨rfl, h9, f9⟩
          have P11 := P10.trans (PR.own h9 f9 rfl)
          have HP11 := Lib.hid P11
          have hst := HST.out
          clear h9 f9 P10 P11
          go_wp2
          go_end0
          refine ⟨rfl, R8, ?_⟩
          have hk : (pickN ps (S.loose.length : Int)).toNat = k := by omega
          have hend : crashTo (past S k) S.file ps.tail (sortedKeys (past S k)).length = (sortedKeys (past S k)).foldl (crashStep (past S k)) (S.file, ps.tail) := by
            unfold crashTo; rw [List.take_length]
          have := HP11.out
          rw [hend] at this
          unfold AS.crashed
          rw [hk]
          exact this

end Go.Proofs.YtpeafckomahjgaaGreatDoor
