/- NetTwo: what the law keeps. -/
import Derived.Test.YthcpdeffgdaieaaB7
namespace Go.Proofs.Ythcpdeffgdaieaa
open Go.RowKit Go.Maps
set_option linter.unusedVariables false

theorem run_idx (t : TypeId) (hs : ∀ w, (sizeOf (Try.prog.elem t)).run Try.prog w = .ok 1 w) (hp : Try.prog.underlying t = some (.array (Try.prog.arrayLen t) (Try.prog.elem t))) (hl : Try.prog.arrayLen t = 2) (w : World) (g : Nat) (b : Bool) :
    (Instr.indexAt t (.pointer (some ⟨g, 0, none⟩)) (.int .i64 (sd b))).run Try.prog w = .ok (.pointer (some ⟨g, (sd b).toNat, none⟩)) w := by
  rw [run_indexAt_array w t _ _ _ hp, hl, if_pos (by have := sd_bd b; omega), hs]
  simp [Result.andThen, Addr.add_lit]
theorem idx56 (w : World) (g : Nat) (b : Bool) : (Instr.indexAt 56 (.pointer (some ⟨g, 0, none⟩)) (.int .i64 (sd b))).run Try.prog w = .ok (.pointer (some ⟨g, (sd b).toNat, none⟩)) w :=
  run_idx 56 (fun w => by simp [go_sem]) (by kernel_rfl) (by kernel_rfl) w g b

theorem idx35 (w : World) (g : Nat) (b : Bool) : (Instr.indexAt 35 (.pointer (some ⟨g, 0, none⟩)) (.int .i64 (sd b))).run Try.prog w = .ok (.pointer (some ⟨g, (sd b).toNat, none⟩)) w :=
  run_idx 35 (fun w => by simp [go_sem]) (by kernel_rfl) (by kernel_rfl) w g b

/-- The two connections' numbers. -/
def cv (b : Bool) : Int := if b then 2 else 1
theorem cv_wf (b : Bool) : (Lit.int .i64 (cv b)).wf = true := by cases b <;> decide
theorem cv_ne {a b : Bool} (h : a ≠ b) : cv a ≠ cv b := by cases a <;> cases b <;> simp_all [cv]

/-- What was sent into a connection begins with what came out of it. -/
structure TInv (S : NS) (se go : Bool → List UInt8) : Prop where
  open_ : ∀ b K, S.link (cv b) = some K → K.cut = false → se b = go b ++ (K.way true).bytes ∧ (K.way false).shut = false ∧ (K.way true).shut = false
  pre : ∀ b, ∃ rest, se b = go b ++ rest
  one : ∃ K, S.link 1 = some K ∧ K.cut = false

theorem setL_link (S : NS) (n m : Int) (K : LK) : (S.setL n K).link m = if m = n then some K else S.link m := rfl
theorem drop_link (S : NS) (n m : Int) : (S.drop n).link m = if m = n then none else S.link m := rfl

theorem find_cv (S : NS) (c : Int) (s : Bool) : S.find c (sd s) = (S.link c).map fun K => (s, K) := by
  unfold NS.find; rw [sideOf_sd]; rfl

/-- A connection that is cut is told, or gone; the other one stays. -/
theorem TInv.tell {S : NS} {se go : Bool → List UInt8} (h : TInv S se go) {b : Bool} {K : LK} (hK : S.link (cv b) = some K) (hc : K.cut = true) (s : Bool) : TInv (S.tell (cv b) K s) se go := by
  have hb : b = true := by
    cases b
    · obtain ⟨Q, hQ, hq⟩ := h.one
      have : S.link 1 = some K := hK
      rw [this] at hQ
      cases hQ
      rw [hc] at hq
      cases hq
    · rfl
  subst hb
  unfold NS.tell
  split
  · refine ⟨fun b Q hQ hq => ?_, h.pre, ?_⟩
    · rw [drop_link] at hQ
      split at hQ
      · cases hQ
      · exact h.open_ b Q hQ hq
    · obtain ⟨Q, hQ, hq⟩ := h.one
      exact ⟨Q, by rw [drop_link, if_neg (by decide)]; exact hQ, hq⟩
  · refine ⟨fun b Q hQ hq => ?_, h.pre, ?_⟩
    · rw [setL_link] at hQ
      split at hQ
      · cases hQ
        have : (K.tell s).cut = K.cut := rfl
        rw [this, hc] at hq
        cases hq
      · exact h.open_ b Q hQ hq
    · obtain ⟨Q, hQ, hq⟩ := h.one
      exact ⟨Q, by rw [setL_link, if_neg (by decide)]; exact hQ, hq⟩

/-- An open connection has turned. -/
theorem TInv.setL {S : NS} {se go se' go' : Bool → List UInt8} (h : TInv S se go) {b : Bool} {K K' : LK} (hK : S.link (cv b) = some K) (hc' : K'.cut = false)
    (h1 : se' b = go' b ++ (K'.way true).bytes) (h2 : (K'.way false).shut = false ∧ (K'.way true).shut = false) (h3 : se' (!b) = se (!b)) (h4 : go' (!b) = go (!b)) : TInv (S.setL (cv b) K') se' go' := by
  have oth : ∀ a, a ≠ b → a = !b := fun a ha => by cases a <;> cases b <;> simp_all
  refine ⟨fun a Q hQ hq => ?_, fun a => ?_, ?_⟩
  · by_cases e : a = b
    · subst e
      rw [setL_link, if_pos rfl] at hQ
      cases hQ
      exact ⟨h1, h2.1, h2.2⟩
    · rw [setL_link, if_neg (cv_ne e)] at hQ
      rw [oth a e, h3, h4, ← oth a e]
      exact h.open_ a Q hQ hq
  · by_cases e : a = b
    · subst e; exact ⟨_, h1⟩
    · rw [oth a e, h3, h4]; exact h.pre _
  · cases b
    · exact ⟨K', by rw [setL_link]; rfl, hc'⟩
    · obtain ⟨Q, hQ, hq⟩ := h.one
      exact ⟨Q, by rw [setL_link, if_neg (by decide)]; exact hQ, hq⟩

inductive Sent2 (S : NS) (se go : Bool → List UInt8) (b : Bool) (data : List UInt8) : Prop
  | ok (m : Nat) (h1 : m ≤ data.length) (h2 : m ≤ 65536) (h3 : (S.send (cv b) 0 data).1 = ((m : Int), 0)) (h5 : TInv (S.send (cv b) 0 data).2 (updB se b (se b ++ data.take m)) go)
  | err (E : Int) (h1 : E ≠ 0) (h2 : (S.send (cv b) 0 data).1 = (0, E)) (h3 : TInv (S.send (cv b) 0 data).2 se go)

theorem TInv.send {S : NS} {se go : Bool → List UInt8} (h : TInv S se go) (b : Bool) (data : List UInt8) : Sent2 S se go b data := by
  have hf : S.find (cv b) 0 = (S.link (cv b)).map fun K => (false, K) := find_cv S (cv b) false
  cases hK : S.link (cv b) with
  | none =>
    have e : S.send (cv b) 0 data = ((0, 14), S) := by unfold NS.send; rw [hf, hK]; rfl
    exact .err 14 (by omega) (by rw [e]) (by rw [e]; exact h)
  | some K =>
    cases hc : K.cut
    · obtain ⟨h1, h2, h3⟩ := h.open_ b K hK hc
      have e : S.send (cv b) 0 data = (((K.sent false data : Int), 0), S.setL (cv b) (K.send false data)) := by unfold NS.send; rw [hf, hK]; simp [hc, h3]
      have hk1 : K.sent false data ≤ data.length := Nat.min_le_left _ _
      have hk2 : K.sent false data ≤ 65536 - (K.way true).bytes.length := Nat.min_le_right _ _
      refine .ok (K.sent false data) hk1 (by omega) (by rw [e]) ?_
      rw [e]
      refine h.setL hK hc ?_ ⟨h2, ?_⟩ (updB_not _ _ _) rfl
      · rw [updB_same]
        show _ = go b ++ (updB K.way true _ true).bytes
        rw [updB_same, h1, List.append_assoc]; rfl
      · show (updB K.way true _ true).shut = false
        rw [updB_same]; exact h3
    · have e : S.send (cv b) 0 data = ((0, 17), S.tell (cv b) K false) := by unfold NS.send; rw [hf, hK]; simp [hc]
      exact .err 17 (by omega) (by rw [e]) (by rw [e]; exact h.tell hK hc false)

theorem TInv.move {S : NS} {se go : Bool → List UInt8} (h : TInv S se go) (b : Bool) (many : Int) : TInv (S.move (cv b) 1 many).2 se go := by
  have hf : S.find (cv b) 1 = (S.link (cv b)).map fun K => (true, K) := find_cv S (cv b) true
  cases hK : S.link (cv b) with
  | none =>
    have e : S.move (cv b) 1 many = ((0, 14), S) := by unfold NS.move; rw [hf, hK]; rfl
    rw [e]; exact h
  | some K =>
    cases hc : K.cut
    · obtain ⟨h1, h2, h3⟩ := h.open_ b K hK hc
      have e : S.move (cv b) 1 many = ((K.moved true many, 0), S.setL (cv b) (K.move true many)) := by unfold NS.move; rw [hf, hK]; simp [hc]
      rw [e]
      refine h.setL hK hc ?_ ⟨h2, ?_⟩ rfl rfl
      · show _ = go b ++ (updB K.way true _ true).bytes
        rw [updB_same]; exact h1
      · show (updB K.way true _ true).shut = false
        rw [updB_same]; exact h3
    · have e : S.move (cv b) 1 many = ((0, 17), S.tell (cv b) K true) := by unfold NS.move; rw [hf, hK]; simp [hc]
      rw [e]; exact h.tell hK hc true

inductive Taken2 (S : NS) (se go : Bool → List UInt8) (b : Bool) (many : Int) : Prop
  | mk (t rest : List UInt8) (E : Int) (h1 : (S.take (cv b) 1 many).1 = (t, E)) (h2 : se b = (go b ++ t) ++ rest) (h4 : TInv (S.take (cv b) 1 many).2 se (updB go b (go b ++ t)))

theorem not_over {K : LK} (h : (K.way false).shut = false) : K.over = false := by unfold LK.over WS.ended; rw [h]; rfl

theorem TInv.take {S : NS} {se go : Bool → List UInt8} (h : TInv S se go) (b : Bool) (many : Int) : Taken2 S se go b many := by
  have hf : S.find (cv b) 1 = (S.link (cv b)).map fun K => (true, K) := find_cv S (cv b) true
  have same : updB go b (go b ++ []) = go := by funext t; unfold updB; split; · rename_i e; subst e; simp
                                                · rfl
  obtain ⟨rest, hrest⟩ := h.pre b
  cases hK : S.link (cv b) with
  | none =>
    have e : S.take (cv b) 1 many = (([], 14), S) := by unfold NS.take; rw [hf, hK]; rfl
    exact .mk [] rest 14 (by rw [e]) (by simpa using hrest) (by rw [e, same]; exact h)
  | some K =>
    cases hc : K.cut
    · obtain ⟨h1, h2, h3⟩ := h.open_ b K hK hc
      have he : (K.way true).ended = false := by unfold WS.ended; rw [h3]; rfl
      by_cases h0 : (K.way true).arr = 0
      · have e : S.take (cv b) 1 many = (([], 15), S) := by unfold NS.take; rw [hf, hK]; simp [hc, he, h0]
        exact .mk [] rest 15 (by rw [e]) (by simpa using hrest) (by rw [e, same]; exact h)
      · have hno : (K.take true many).over = false := not_over h2
        have e : S.take (cv b) 1 many = (((K.way true).bytes.take (K.took true many), 0), S.setL (cv b) (K.take true many)) := by
          unfold NS.take; rw [hf, hK]; simp [hc, he, h0, NS.release, hno]
        refine .mk ((K.way true).bytes.take (K.took true many)) ((K.way true).bytes.drop (K.took true many)) 0 (by rw [e]) (by rw [List.append_assoc, List.take_append_drop]; exact h1) ?_
        rw [e]
        refine h.setL hK hc ?_ ⟨h2, ?_⟩ rfl (updB_not _ _ _)
        · rw [updB_same]
          show _ = _ ++ (updB K.way true _ true).bytes
          rw [updB_same, List.append_assoc]
          show _ = go b ++ (List.take _ _ ++ List.drop _ _)
          rw [List.take_append_drop]; exact h1
        · show (updB K.way true _ true).shut = false
          rw [updB_same]; exact h3
    · have e : S.take (cv b) 1 many = (([], 17), S.tell (cv b) K true) := by unfold NS.take; rw [hf, hK]; simp [hc]
      exact .mk [] rest 17 (by rw [e]) (by simpa using hrest) (by rw [e, same]; exact h.tell hK hc true)

theorem TInv.cutC {S : NS} {se go : Bool → List UInt8} (h : TInv S se go) : TInv (S.cutC 2).2 se go := by
  unfold NS.cutC
  cases hK : S.link 2 with
  | none => exact h
  | some K =>
    simp only
    split
    · exact h
    · refine ⟨fun b Q hQ hq => ?_, h.pre, ?_⟩
      · rw [setL_link] at hQ
        split at hQ
        · cases hQ; cases hq
        · exact h.open_ b Q hQ hq
      · obtain ⟨Q, hQ, hq⟩ := h.one
        exact ⟨Q, by rw [setL_link, if_neg (by decide)]; exact hQ, hq⟩

/-- At the end all that is on the way is moved, and taken. -/
theorem TInv.last {S : NS} {se go : Bool → List UInt8} (h : TInv S se go) (hW : WF S) : ∃ t E, ((S.move 1 1 1048576).2.take 1 1 1048576).1 = (t, E) ∧ go false ++ t = se false := by
  have hf : ∀ S : NS, S.find 1 1 = (S.link 1).map fun K => (true, K) := fun S => find_cv S 1 true
  obtain ⟨K, hK, hc⟩ := h.one
  obtain ⟨h1, h2, h3⟩ := h.open_ false K hK hc
  have hwy := hW.way 1 K true hK
  have e : S.move 1 1 1048576 = ((K.moved true 1048576, 0), S.setL 1 (K.move true 1048576)) := by unfold NS.move; rw [hf, hK]; simp [hc]
  rw [e]
  have hmv : K.moved true 1048576 = (K.way true).mov := by
    have hm2 : (K.way true).mov = ((K.way true).bytes.length : Int) - (K.way true).arr := rfl
    unfold LK.moved amt; omega
  obtain ⟨Q, hQ⟩ : ∃ Q, K.move true 1048576 = Q := ⟨_, rfl⟩
  have q1 : (Q.way true).bytes = (K.way true).bytes := by rw [← hQ]; unfold LK.move LK.setW; simp only [updB_same]
  have q2 : (Q.way true).arr = (K.way true).bytes.length := by
    rw [← hQ]; unfold LK.move LK.setW; simp only [updB_same]
    rw [hmv]; unfold WS.mov; omega
  have q3 : (Q.way true).shut = false := by rw [← hQ]; unfold LK.move LK.setW; simp only [updB_same]; exact h3
  have q4 : Q.cut = false := by rw [← hQ]; exact hc
  rw [hQ]
  have hl : (S.setL 1 Q).link 1 = some Q := by rw [setL_link, if_pos rfl]
  have he : (Q.way true).ended = false := by unfold WS.ended; rw [q3]; rfl
  by_cases h0 : (Q.way true).arr = 0
  · refine ⟨[], 15, ?_, ?_⟩
    · show ((S.setL 1 Q).take 1 1 1048576).1 = _
      unfold NS.take; rw [hf, hl]; simp [q4, he, h0]
    · have : (K.way true).bytes = [] := List.eq_nil_of_length_eq_zero (by omega)
      rw [h1, this]
  · refine ⟨(Q.way true).bytes.take (Q.took true 1048576), 0, ?_, ?_⟩
    · show ((S.setL 1 Q).take 1 1 1048576).1 = _
      unfold NS.take; rw [hf, hl]; simp [q4, he, h0]
    · have hk : Q.took true 1048576 = (K.way true).bytes.length := by unfold LK.took amt; omega
      rw [hk, q1, List.take_length]; exact h1.symm

/-! ### how it lies -/
def ints2 : Array Value := #[.int .i64 1, .int .i64 2]
def Own2 (B cn bs bg k : Nat) : Prop := k < B ∨ k = cn ∨ k = bs ∨ k = bg
structure TL (w0 w : World) (cn bs bg d : Nat) (S : NS) (se go : Bool → List UInt8) : Prop where
  nt : Nt w (Own2 w0.heap.size cn bs bg) d S
  bel : Below w0.heap.size w0 w
  bcn : Blk w cn 56 ints2
  bse : Blk w bs 35 (strs2 se)
  bgo : Blk w bg 35 (strs2 go)
  ne : w0.heap.size ≤ cn ∧ w0.heap.size ≤ bs ∧ w0.heap.size ≤ bg ∧ cn ≠ bs ∧ cn ≠ bg ∧ bs ≠ bg

/-- Within a round. -/
structure TB (w0 w : World) (cn bs bg bo d : Nat) (o : OpV) (S : NS) (se go : Bool → List UInt8) : Prop where
  nt : Nt w (fun k => Own2 w0.heap.size cn bs bg k ∨ k = bo) d S
  bel : Below w0.heap.size w0 w
  bcn : Blk w cn 56 ints2
  bse : Blk w bs 35 (strs2 se)
  bgo : Blk w bg 35 (strs2 go)
  bop : Blk w bo 32 o.cells
  ne : w0.heap.size ≤ cn ∧ w0.heap.size ≤ bs ∧ w0.heap.size ≤ bg ∧ cn ≠ bs ∧ cn ≠ bg ∧ bs ≠ bg
  neo : w0.heap.size ≤ bo ∧ bo ≠ cn ∧ bo ≠ bs ∧ bo ≠ bg

section
variable {w0 w : World} {cn bs bg bo d : Nat} {o : OpV} {S : NS} {se go : Bool → List UInt8}
theorem TL.start (h : TL w0 w cn bs bg d S se go) (o : OpV) : TB w0 (w.alloc (.cells o.cells 32)) cn bs bg w.heap.size d o S se go := by
  have al : ∀ {g : Nat} {t : TypeId} {cs : Array Value}, Blk w g t cs → Blk (w.alloc (.cells o.cells 32)) g t cs := fun hb => hb.of (Below.heap_alloc _ _ _ hb.lt)
  have l1 := h.bcn.lt
  have l2 := h.bse.lt
  have l3 := h.bgo.lt
  have l0 := h.bel.size
  exact ⟨h.nt.alloc _, h.bel.trans (((Below.refl _ w).alloc (Nat.le_refl _) _).mono l0), al h.bcn, al h.bse, al h.bgo, Blk.new w 32 _, h.ne, by omega⟩
theorem TB.fin (h : TB w0 w cn bs bg bo d o S se go) : TL w0 w cn bs bg d S se go :=
  ⟨h.nt.less fun k hk => .inl hk, h.bel, h.bcn, h.bse, h.bgo, h.ne⟩
theorem TB.turn {w' : World} {S' : NS} (h : TB w0 w cn bs bg bo d o S se go) (hn : Nt w' (fun k => Own2 w0.heap.size cn bs bg k ∨ k = bo) d S') (hf : Fr (Out fun k => Own2 w0.heap.size cn bs bg k ∨ k = bo) w w') : TB w0 w' cn bs bg bo d o S' se go := by
  have kp : ∀ {g : Nat} {t : TypeId} {cs : Array Value}, (Own2 w0.heap.size cn bs bg g ∨ g = bo) → Blk w g t cs → Blk w' g t cs := fun hx hb => hb.of (hf.block _ hb.lt fun ho => ho hx)
  exact ⟨hn, h.bel.trans (hf.below_of h.bel.size fun k hk => Nat.le_of_not_lt fun hlt => hk (.inl (.inl hlt))), kp (.inl (.inr (.inl rfl))) h.bcn, kp (.inl (.inr (.inr (.inl rfl)))) h.bse, kp (.inl (.inr (.inr (.inr rfl)))) h.bgo, kp (.inr rfl) h.bop, h.ne, h.neo⟩
theorem TB.keep {w' : World} (h : TB w0 w cn bs bg bo d o S se go) (hf : Fr No w w') : TB w0 w' cn bs bg bo d o S se go := h.turn (h.nt.keep hf) hf.any
theorem TB.drew (h : TB w0 w cn bs bg bo d o S se go) : TB w0 w.drew cn bs bg bo d o S se go := h.keep ((Fr.refl _ w).drew)
theorem TB.setOwn {i : Nat} {v : Value} {g : Nat} (h : TB w0 w cn bs bg bo d o S se go) (hg : g = bs ∨ g = bg) :
    Nt (w.setCell ⟨g, i, none⟩ v) (fun k => Own2 w0.heap.size cn bs bg k ∨ k = bo) d S ∧ Below w0.heap.size w0 (w.setCell ⟨g, i, none⟩ v) := by
  have hf : Fr (One g) w (w.setCell ⟨g, i, none⟩ v) := (Fr.refl (One g) w).setCell (p := ⟨g, i, none⟩) (fun _ => rfl) v
  have hne := h.ne
  refine ⟨h.nt.own (hf.mono fun k _ hk => ?_), h.bel.trans (hf.below_of h.bel.size fun k hk => ?_)⟩
  · unfold One at hk; subst hk
    rcases hg with rfl | rfl
    · exact .inl (.inr (.inr (.inl rfl)))
    · exact .inl (.inr (.inr (.inr rfl)))
  · unfold One at hk; omega
theorem TB.setSe (h : TB w0 w cn bs bg bo d o S se go) (b : Bool) (l : List UInt8) : TB w0 (w.setCell ⟨bs, (sd b).toNat, none⟩ (.string ⟨l.toArray⟩)) cn bs bg bo d o S (updB se b l) go := by
  obtain ⟨h1, h2⟩ := h.setOwn (g := bs) (i := (sd b).toNat) (v := .string ⟨l.toArray⟩) (.inl rfl)
  have hne := h.ne
  have hno := h.neo
  exact ⟨h1, h2, set_ne (w' := w) h.bcn (by omega), by rw [← strs2_set]; exact h.bse.set_ _ _, set_ne (w' := w) h.bgo (by omega), set_ne (w' := w) h.bop (by omega), hne, hno⟩
theorem TB.setGo (h : TB w0 w cn bs bg bo d o S se go) (b : Bool) (l : List UInt8) : TB w0 (w.setCell ⟨bg, (sd b).toNat, none⟩ (.string ⟨l.toArray⟩)) cn bs bg bo d o S se (updB go b l) := by
  obtain ⟨h1, h2⟩ := h.setOwn (g := bg) (i := (sd b).toNat) (v := .string ⟨l.toArray⟩) (.inr rfl)
  have hne := h.ne
  have hno := h.neo
  exact ⟨h1, h2, set_ne (w' := w) h.bcn (by omega), set_ne (w' := w) h.bse (by omega), by rw [← strs2_set]; exact h.bgo.set_ _ _, set_ne (w' := w) h.bop (by omega), hne, hno⟩
theorem TB.cse (h : TB w0 w cn bs bg bo d o S se go) (b : Bool) : w.cell? ⟨bs, (sd b).toNat, none⟩ = some (.string ⟨(se b).toArray⟩) := by
  rw [h.bse.cell]; cases b <;> rfl
theorem TB.cgo (h : TB w0 w cn bs bg bo d o S se go) (b : Bool) : w.cell? ⟨bg, (sd b).toNat, none⟩ = some (.string ⟨(go b).toArray⟩) := by
  rw [h.bgo.cell]; cases b <;> rfl
theorem TB.ccn (h : TB w0 w cn bs bg bo d o S se go) (b : Bool) : w.cell? ⟨cn, (sd b).toNat, none⟩ = some (.int .i64 (cv b)) := by
  rw [h.bcn.cell]; cases b <;> rfl
theorem TB.cod (h : TB w0 w cn bs bg bo d o S se go) : w.cell? ⟨bo, 4, none⟩ = some (.string ⟨o.data.toArray⟩) := h.bop.cell 4
end

theorem TL.turn {w0 w w' : World} {cn bs bg d : Nat} {S S' : NS} {se go : Bool → List UInt8} (h : TL w0 w cn bs bg d S se go) (hn : Nt w' (Own2 w0.heap.size cn bs bg) d S') (hf : Fr (Out (Own2 w0.heap.size cn bs bg)) w w') : TL w0 w' cn bs bg d S' se go := by
  have kp : ∀ {g : Nat} {t : TypeId} {cs : Array Value}, Own2 w0.heap.size cn bs bg g → Blk w g t cs → Blk w' g t cs := fun hx hb => hb.of (hf.block _ hb.lt fun ho => ho hx)
  exact ⟨hn, h.bel.trans (hf.below_of h.bel.size fun k hk => Nat.le_of_not_lt fun hlt => hk (.inl hlt)), kp (.inr (.inl rfl)) h.bcn, kp (.inr (.inr (.inl rfl))) h.bse, kp (.inr (.inr (.inr rfl))) h.bgo, h.ne⟩

def LoopT (w0 w : World) (cn bs bg d n : Nat) (iv : Value) : Prop :=
  ∃ (k : Nat) (S : NS) (se go : Bool → List UInt8), k ≤ n ∧ iv = .int .i64 k ∧ TL w0 w cn bs bg d S se go ∧ TInv S se go ∧ ∀ s, (se s).length ≤ 65536 * k
theorem LoopT.next {w0 w : World} {cn bs bg bo d n k : Nat} {o : OpV} {S : NS} {se go : Bool → List UInt8} (hk : k < n) (h1 : TB w0 w cn bs bg bo d o S se go) (h2 : TInv S se go) (h3 : ∀ s, (se s).length ≤ 65536 * (k + 1)) : LoopT w0 w cn bs bg d n (.int .i64 ((k : Int) + 1)) :=
  ⟨k + 1, S, se, go, hk, by simp, h1.fin, h2, h3⟩

def N2' : NS := N1.opened.2
theorem tw1 : N1.opened.1 = (2, 0) := by kernel_rfl
theorem loopT_start {w0 w3 : World} {d n : Nat} (h : Nt w3 (Old w0.heap.size) d N2') (hb : Below w0.heap.size w0 w3) :
    LoopT w0 (((w3.alloc (.cells #[.int .i64 1, .int .i64 2] 56)).alloc (.cells #[.string ⟨#[]⟩, .string ⟨#[]⟩] 35)).alloc (.cells #[.string ⟨#[]⟩, .string ⟨#[]⟩] 35)) w3.heap.size (w3.heap.size + 1) (w3.heap.size + 1 + 1) d n (.int .i64 0) := by
  have hsz := hb.size
  have h1 := ((h.alloc (.cells #[.int .i64 1, .int .i64 2] 56)).alloc (.cells #[.string ⟨#[]⟩, .string ⟨#[]⟩] 35)).alloc (.cells #[.string ⟨#[]⟩, .string ⟨#[]⟩] 35)
  have e1 : (w3.alloc (.cells #[.int .i64 1, .int .i64 2] 56)).heap.size = w3.heap.size + 1 := by simp
  have e2 : ((w3.alloc (.cells #[.int .i64 1, .int .i64 2] 56)).alloc (.cells #[.string ⟨#[]⟩, .string ⟨#[]⟩] 35)).heap.size = w3.heap.size + 1 + 1 := by simp
  have b0 := Blk.new w3 56 #[.int .i64 1, .int .i64 2]
  have b1 := Blk.new (w3.alloc (.cells #[.int .i64 1, .int .i64 2] 56)) 35 #[.string ⟨#[]⟩, .string ⟨#[]⟩]
  have b2 := Blk.new ((w3.alloc (.cells #[.int .i64 1, .int .i64 2] 56)).alloc (.cells #[.string ⟨#[]⟩, .string ⟨#[]⟩] 35)) 35 #[.string ⟨#[]⟩, .string ⟨#[]⟩]
  have al : ∀ {w : World} {g : Nat} {t : TypeId} {cs : Array Value} (o : Obj), Blk w g t cs → Blk (w.alloc o) g t cs := fun o hb => hb.of (Below.heap_alloc _ o _ hb.lt)
  rw [e1] at b1 h1
  rw [e2] at b2 h1
  have l1 : N2'.link 1 = some LK.fresh := by kernel_rfl
  have l2 : N2'.link 2 = some LK.fresh := by kernel_rfl
  refine ⟨0, N2', fun _ => [], fun _ => [], Nat.zero_le _, rfl, ⟨h1.less fun k hk => ?_, ?_, al _ (al _ b0), al _ b1, b2, ?_⟩, ⟨fun b K hK hc => ?_, fun b => ⟨[], rfl⟩, ⟨_, l1, rfl⟩⟩, fun s => by simp⟩
  · rcases hk with hk | hk | hk | hk
    · exact .inl (.inl (.inl hk))
    · exact .inl (.inl (.inr hk))
    · exact .inl (.inr hk)
    · exact .inr hk
  · exact hb.trans (((((Below.refl _ w3).alloc (Nat.le_refl _) _).alloc (by simp) _).alloc (by simp; omega) _).mono hsz)
  · omega
  · cases b
    · have : N2'.link 1 = some K := hK
      rw [l1] at this; cases this; exact ⟨rfl, rfl, rfl⟩
    · have : N2'.link 2 = some K := hK
      rw [l2] at this; cases this; exact ⟨rfl, rfl, rfl⟩

/-- What stands behind the call of a round. -/
def CutT (w0 w : World) (cn bs bg bo d k : Nat) (o : OpV) : Prop :=
  ∃ (S : NS) (se go : Bool → List UInt8), TB w0 w cn bs bg bo d o S se go ∧ TInv S se go ∧ ∀ s, (se s).length ≤ 65536 * (k + 1)
theorem CutT.mk {w0 w : World} {cn bs bg bo d k : Nat} {o : OpV} {S : NS} {se go : Bool → List UInt8} (h1 : TB w0 w cn bs bg bo d o S se go) (h2 : TInv S se go) (h3 : ∀ s, (se s).length ≤ 65536 * (k + 1)) : CutT w0 w cn bs bg bo d k o := ⟨S, se, go, h1, h2, h3⟩

/-- A call of two results, and what it leaves. -/
def CallS (w0 w : World) (cn bs bg bo d : Nat) (o : OpV) (p : (Int × Int) × NS) (se go : Bool → List UInt8) (mv ev : Value) : Prop :=
  mv = .int .i64 p.1.1 ∧ ev = .int .i64 p.1.2 ∧ TB w0 w cn bs bg bo d o p.2 se go
def CallT (w0 w : World) (cn bs bg bo d : Nat) (o : OpV) (p : (List UInt8 × Int) × NS) (se go : Bool → List UInt8) (mv ev : Value) : Prop :=
  mv = .string ⟨p.1.1.toArray⟩ ∧ ev = .int .i64 p.1.2 ∧ TB w0 w cn bs bg bo d o p.2 se go

end Go.Proofs.Ythcpdeffgdaieaa
