/- One file turns: its bytes, and which are firm. Sync, Cut, and what Write does to a file that is there. -/
import Derived.Test.YtpeafckomahjgaaGreatDoorDA6
namespace Go.Proofs.YtpeafckomahjgaaGreatDoor
open Go.RowKit Go.Maps
set_option linter.unusedVariables false

def upd {α : Type} (f : Int → α) (n : Int) (x : α) (m : Int) : α := if m = n then x else f m
theorem upd_same {α : Type} (f : Int → α) (n : Int) (x : α) : upd f n x n = x := by simp [upd]
theorem upd_other {α : Type} (f : Int → α) {n m : Int} (x : α) (h : m ≠ n) : upd f n x m = f m := by simp [upd, h]

/-- The blocks of file n. -/
def fileB (R : Rp) (n : Int) (k : Nat) : Prop := k = (R.rc n).1 ∨ (R.rc n).2.ownBlock = some k

theorem At.other {w : World} {d : Nat} {R : Rp} {S : AS} (h : At w d R S) {n : Int} {r : FR} (hr : S.file n = some r) {k : Nat} (hk : fileB R n k) :
    k ≠ d ∧ R.nm ≠ some k ∧ R.fm ≠ some k ∧ R.fb ≠ some k ∧ R.lv.ownBlock ≠ some k ∧ ∀ m q, m ≠ n → S.file m = some q → k ≠ (R.rc m).1 ∧ (R.rc m).2.ownBlock ≠ some k := by
  have hf := h.fd n
  rw [hr] at hf
  obtain ⟨_, h2, h3⟩ := hf
  have hap := h.apart.2.2.2.2 n r hr
  have hcells : ∃ cs t fz, w.heap[k]? = some (.cells cs t fz) := by
    rcases hk with rfl | hk
    · exact ⟨_, _, _, h2⟩
    · obtain ⟨cur, hc⟩ := own_row h3 hk
      exact ⟨_, _, _, hc⟩
  have mp : ∀ {K : TypeId} {E : Value → Option (DU × List MemPlace)} {m : Option Nat} {D : DU}, MapAt w Tryz.prog K E m D → m ≠ some k := by
    rintro K E m D hm rfl
    obtain ⟨es, c, he⟩ := owns_map (b := k) hm
    obtain ⟨cs, t, fz, hc⟩ := hcells
    exact map_ne_blk he hc rfl
  refine ⟨?_, mp h.names, mp h.firm, mp h.files, fun e => ?_, fun m q hm hq => ?_⟩
  · rcases hk with rfl | hk
    · exact hap.1
    · intro e; subst e; exact hap.2 hk
  · rcases hk with rfl | hk
    · exact own_blk_ne h.loose e h2 (by decide) rfl
    · exact own_own_ne h.loose e h3 hk (by decide) rfl
  · have hf' := h.fd m
    rw [hq] at hf'
    obtain ⟨_, h2', h3'⟩ := hf'
    have ap := h.ap n m r q (Ne.symm hm) hr hq
    rcases hk with rfl | hk
    · exact ⟨ap.1, fun e => own_blk_ne h3' e h2 (by decide) rfl⟩
    · exact ⟨own_blk_ne h3 hk h2' (by decide), ap.2 k hk⟩

/-- File n has turned, and nothing else of the disk. -/
theorem At.file {w w' : World} {d : Nat} {R : Rp} {S : AS} (h : At w d R S) {n : Int} {r r' : FR} {v' : Value} (hr : S.file n = some r) (hf : Fr (fileB R n) w w')
    (hb : Blk w' (R.rc n).1 122 #[v', .int .i64 r'.firm]) (ho : w'.ownsRow 0 5 1 v' r'.bytes.length (r'.bytes.map byteV)) (hv : ∀ k, v'.ownBlock = some k → (R.rc n).2.ownBlock = some k ∨ w.heap.size ≤ k) :
    At w' d { R with rc := upd R.rc n ((R.rc n).1, v') } { S with file := upd S.file n (some r') } := by
  have same : ∀ k, k < w.heap.size → ¬ fileB R n k → w'.heap[k]? = w.heap[k]? := hf.block
  have lt := h.lt
  have oth := fun k (hk : fileB R n k) => h.other hr hk
  have hfd := h.fd n
  rw [hr] at hfd
  exact {
    blk := h.blk.of (same _ (lt _ (.inl rfl)) fun hk => (oth _ hk).1 rfl)
    names := h.names.of fun b hb => same _ (lt _ (.inr (.inl hb))) fun hk => (oth _ hk).2.1 hb
    firm := h.firm.of fun b hb => same _ (lt _ (.inr (.inr (.inl hb)))) fun hk => (oth _ hk).2.2.1 hb
    files := h.files.of fun b hb => same _ (lt _ (.inr (.inr (.inr (.inl hb))))) fun hk => (oth _ hk).2.2.2.1 hb
    loose := own_of h.loose fun b hb => same _ (lt _ (.inr (.inr (.inr (.inr (.inl hb)))))) fun hk => (oth _ hk).2.2.2.2.1 hb
    fd := fun m => by
      by_cases e : m = n
      · subst e
        show FileAt w' _ _ (upd S.file m (some r') m)
        rw [upd_same]
        refine ⟨fun z => ?_, ?_, ?_⟩
        · show R.FD.atKey _ z = .lit (.int .i64 (upd R.rc m ((R.rc m).1, v') m).1)
          rw [upd_same]; exact hfd.1 z
        · show Blk w' (upd R.rc m ((R.rc m).1, v') m).1 122 #[(upd R.rc m ((R.rc m).1, v') m).2, _]
          rw [upd_same]; exact hb
        · show w'.ownsRow 0 5 1 (upd R.rc m ((R.rc m).1, v') m).2 _ _
          rw [upd_same]; exact ho
      · show FileAt w' _ _ (upd S.file n (some r') m)
        rw [upd_other _ _ e]
        have hm := h.fd m
        cases hq : S.file m with
        | none => rw [hq] at hm; exact hm
        | some q =>
          rw [hq] at hm
          obtain ⟨h1, h2, h3⟩ := hm
          refine ⟨fun z => ?_, ?_, ?_⟩
          · show R.FD.atKey _ z = .lit (.int .i64 (upd R.rc n ((R.rc n).1, v') m).1)
            rw [upd_other _ _ e]; exact h1 z
          · show Blk w' (upd R.rc n ((R.rc n).1, v') m).1 122 #[(upd R.rc n ((R.rc n).1, v') m).2, _]
            rw [upd_other _ _ e]
            exact h2.of (same _ h2.lt fun hk => ((oth _ hk).2.2.2.2.2 m q e hq).1 rfl)
          · show w'.ownsRow 0 5 1 (upd R.rc n ((R.rc n).1, v') m).2 _ _
            rw [upd_other _ _ e]
            exact own_of h3 fun k hk => same k (h3.lt k hk).2 fun hf => ((oth _ hf).2.2.2.2.2 m q e hq).2 hk
    ne1 := h.ne1
    ne2 := h.ne2
    ne3 := h.ne3
    ap := fun m1 m2 q1 q2 hne h1 h2 => by
      show (upd R.rc n ((R.rc n).1, v') m1).1 ≠ (upd R.rc n ((R.rc n).1, v') m2).1 ∧ ∀ k, (upd R.rc n ((R.rc n).1, v') m1).2.ownBlock = some k → (upd R.rc n ((R.rc n).1, v') m2).2.ownBlock ≠ some k
      have h1' : upd S.file n (some r') m1 = some q1 := h1
      have h2' : upd S.file n (some r') m2 = some q2 := h2
      by_cases e1 : m1 = n
      · subst e1
        have e2 : m2 ≠ m1 := Ne.symm hne
        rw [upd_other _ _ e2] at h2'
        rw [upd_same, upd_other _ _ e2]
        have ap := h.ap m1 m2 r q2 hne hr h2'
        have hm := h.fd m2
        rw [h2'] at hm
        refine ⟨ap.1, fun k hk hk2 => ?_⟩
        rcases hv k hk with hk' | hk'
        · exact ap.2 k hk' hk2
        · have := (hm.2.2.lt k hk2).2; omega
      · rw [upd_other _ _ e1] at h1'
        rw [upd_other _ _ e1]
        by_cases e2 : m2 = n
        · subst e2
          rw [upd_same]
          have ap := h.ap m1 m2 q1 r hne h1' hr
          have hm := h.fd m1
          rw [h1'] at hm
          refine ⟨ap.1, fun k hk hk2 => ?_⟩
          rcases hv k hk2 with hk' | hk'
          · exact ap.2 k hk hk'
          · have := (hm.2.2.lt k hk).2; omega
        · rw [upd_other _ _ e2] at h2'
          rw [upd_other _ _ e2]
          exact h.ap m1 m2 q1 q2 hne h1' h2'
    onn := h.onn }

theorem PR.file {w w' : World} {d : Nat} {R : Rp} {S : AS} (h : At w d R S) {n : Int} {r r' : FR} {v' : Value} (hr : S.file n = some r) (hf : Fr (fileB R n) w w')
    (hb : Blk w' (R.rc n).1 122 #[v', .int .i64 r'.firm]) (ho : w'.ownsRow 0 5 1 v' r'.bytes.length (r'.bytes.map byteV)) (hv : ∀ k, v'.ownBlock = some k → (R.rc n).2.ownBlock = some k ∨ w.heap.size ≤ k) :
    PR d R S w { R with rc := upd R.rc n ((R.rc n).1, v') } { S with file := upd S.file n (some r') } w' := by
  refine ⟨h.file hr hf hb ho hv, hf.mono fun k _ hk => .inr (.inr (.inr (.inr (.inr ⟨n, r, hr, hk⟩)))), fun k hk => ?_⟩
  rcases hk with hk | hk | hk | hk | hk | ⟨m, q, hq, hk⟩
  · exact .inl (.inl hk)
  · exact .inl (.inr (.inl hk))
  · exact .inl (.inr (.inr (.inl hk)))
  · exact .inl (.inr (.inr (.inr (.inl hk))))
  · exact .inl (.inr (.inr (.inr (.inr (.inl hk)))))
  · have hq' : upd S.file n (some r') m = some q := hq
    have hk' : k = (upd R.rc n ((R.rc n).1, v') m).1 ∨ (upd R.rc n ((R.rc n).1, v') m).2.ownBlock = some k := hk
    by_cases e : m = n
    · subst e
      rw [upd_same] at hk'
      rcases hk' with hk' | hk'
      · exact .inl (.inr (.inr (.inr (.inr (.inr ⟨m, r, hr, .inl hk'⟩)))))
      · rcases hv k hk' with h1 | h1
        · exact .inl (.inr (.inr (.inr (.inr (.inr ⟨m, r, hr, .inr h1⟩)))))
        · exact .inr h1
    · rw [upd_other _ _ e] at hq' hk'
      exact .inl (.inr (.inr (.inr (.inr (.inr ⟨m, q, hq', hk'⟩)))))

end Go.Proofs.YtpeafckomahjgaaGreatDoor
