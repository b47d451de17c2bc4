/- A new file comes. -/
import Derived.Test.YtpeafckomahjgaaGreatDoorDB2
namespace Go.Proofs.YtpeafckomahjgaaGreatDoor
open Go.RowKit Go.Maps Go.Sort
set_option linter.unusedVariables false

def AS.written (S : AS) (n : Int) (r : FR) (data : List UInt8) : AS := { S with file := upd S.file n (some { bytes := r.bytes ++ data, firm := r.firm }) }
def AS.opened (S : AS) : AS := { S with last := S.last + 1, file := upd S.file (S.last + 1) (some { bytes := [], firm := 0 }) }
def AS.made (S : AS) (l : List UInt8) : AS := S.opened.altered { frm := [], to := l, file := S.last + 1 }
def Rp.opened (R : Rp) (n : Int) (g : Nat) : Rp := { R with FD := R.FD.put (.int .i64 n) (.lit (.int .i64 g)), rc := upd R.rc n (g, .slice none 0 0) }

theorem At.opened {w w' : World} {d g fb : Nat} {R : Rp} {S : AS} (h : At w d R S) (hfb : R.fb = some fb) (hn : S.file (S.last + 1) = none) (hf : Fr (fun k => k = d ∨ k = fb) w w')
    (hb : Blk w' d 84 (cellsOf S.opened R)) (hm : w'.ownsMap Tryz.prog 3 ptrElem fb (Maps.size (R.opened (S.last + 1) g).FD) (R.opened (S.last + 1) g).FD) (hg : Blk w' g 122 #[.slice none 0 0, .int .i64 0]) (hgn : w.heap.size ≤ g) :
    At w' d (R.opened (S.last + 1) g) S.opened := by
  have lt := h.lt
  obtain ⟨a1, a2, a3, a4, a5⟩ := h.apart
  have hfm := h.files
  rw [hfb] at hfm
  obtain ⟨es, cl, hfbh⟩ := owns_map (b := fb) hfm
  have cne : ∀ {k : Nat} {cs : Array Value} {t : TypeId} {fz : Nat × Nat}, w.heap[k]? = some (.cells cs t fz) → k ≠ fb := fun hc e => map_ne_blk hfbh hc e.symm
  have ne : ∀ k, foot d R S k → k ≠ d → k ≠ fb → w'.heap[k]? = w.heap[k]? := fun k hk h1 h2 => hf.block k (lt k hk) (by rintro (e | e); exact h1 e; exact h2 e)
  have hIs : IsMap R.FD := h.files.isMap
  exact {
    blk := hb
    names := h.names.of fun b hb => ne _ (.inr (.inl hb)) (fun e => a1 (e ▸ hb)) (fun e => h.ne2 b hb (e ▸ hfb))
    firm := h.firm.of fun b hb => ne _ (.inr (.inr (.inl hb))) (fun e => a2 (e ▸ hb)) (fun e => h.ne3 b hb (e ▸ hfb))
    files := by show MapAt w' Tryz.prog 3 ptrElem R.fb _; rw [hfb]; exact hm
    loose := own_of h.loose fun k hk => ne _ (.inr (.inr (.inr (.inr (.inl hk))))) (fun e => a4 (e ▸ hk)) (by obtain ⟨cur, hc⟩ := own_row h.loose hk; exact cne hc)
    fd := fun m => by
      by_cases e : m = S.last + 1
      · subst e
        show FileAt w' _ _ (upd S.file (S.last + 1) _ (S.last + 1))
        rw [upd_same]
        have er : (R.opened (S.last + 1) g).rc (S.last + 1) = (g, .slice none 0 0) := upd_same _ _ _
        refine ⟨fun z => ?_, ?_, ?_⟩
        · rw [er]; exact atKey_put_same hIs (isKeyI _) _ z
        · rw [er]; exact hg
        · rw [er]; exact World.ownsRow_nil w' 0 5 1
      · show FileAt w' _ _ (upd S.file (S.last + 1) _ m)
        rw [upd_other _ _ e]
        have er : (R.opened (S.last + 1) g).rc m = R.rc m := upd_other _ _ e
        have hm2 := h.fd m
        cases hq : S.file m with
        | none =>
          rw [hq] at hm2
          show has (R.FD.put _ _) _ = false
          rw [has_put_other (keyI_ne e)]; exact hm2
        | some q =>
          rw [hq] at hm2
          obtain ⟨h1, h2, h3⟩ := hm2
          have ap5 := a5 m q hq
          refine ⟨fun z => ?_, ?_, ?_⟩
          · rw [er]
            show (R.FD.put _ _).atKey _ z = _
            rw [atKey_put_other (keyI_ne e)]; exact h1 z
          · rw [er]; exact h2.of (ne _ (.inr (.inr (.inr (.inr (.inr ⟨m, q, hq, .inl rfl⟩))))) ap5.1 (cne h2))
          · rw [er]; exact own_of h3 fun k hk => ne _ (.inr (.inr (.inr (.inr (.inr ⟨m, q, hq, .inr hk⟩))))) (fun e => ap5.2 (e ▸ hk)) (by obtain ⟨cur, hc⟩ := own_row h3 hk; exact cne hc)
    ne1 := h.ne1
    ne2 := h.ne2
    ne3 := h.ne3
    ap := fun m1 m2 q1 q2 hne h1 h2 => by
      have h1' : upd S.file (S.last + 1) _ m1 = some q1 := h1
      have h2' : upd S.file (S.last + 1) _ m2 = some q2 := h2
      have blt : ∀ m q, S.file m = some q → (R.rc m).1 < w.heap.size := fun m q hq => by
        have := h.fd m; rw [hq] at this; exact this.2.1.lt
      by_cases e1 : m1 = S.last + 1
      · subst e1
        have e2 : m2 ≠ S.last + 1 := Ne.symm hne
        rw [upd_other _ _ e2] at h2'
        have er1 : (R.opened (S.last + 1) g).rc (S.last + 1) = (g, .slice none 0 0) := upd_same _ _ _
        have er2 : (R.opened (S.last + 1) g).rc m2 = R.rc m2 := upd_other _ _ e2
        rw [er1, er2]
        exact ⟨fun e => by have := blt m2 q2 h2'; simp at e; omega, fun k hk => by simp [Value.ownBlock] at hk⟩
      · rw [upd_other _ _ e1] at h1'
        have er1 : (R.opened (S.last + 1) g).rc m1 = R.rc m1 := upd_other _ _ e1
        by_cases e2 : m2 = S.last + 1
        · subst e2
          have er2 : (R.opened (S.last + 1) g).rc (S.last + 1) = (g, .slice none 0 0) := upd_same _ _ _
          rw [er1, er2]
          exact ⟨fun e => by have := blt m1 q1 h1'; simp at e; omega, fun k _ hk => by simp [Value.ownBlock] at hk⟩
        · rw [upd_other _ _ e2] at h2'
          have er2 : (R.opened (S.last + 1) g).rc m2 = R.rc m2 := upd_other _ _ e2
          rw [er1, er2]
          exact h.ap m1 m2 q1 q2 hne h1' h2'
    onn := h.onn }

theorem PR.opened {w w' : World} {d g fb : Nat} {R : Rp} {S : AS} (h : At w d R S) (hfb : R.fb = some fb) (hn : S.file (S.last + 1) = none) (hf : Fr (fun k => k = d ∨ k = fb) w w')
    (hb : Blk w' d 84 (cellsOf S.opened R)) (hm : w'.ownsMap Tryz.prog 3 ptrElem fb (Maps.size (R.opened (S.last + 1) g).FD) (R.opened (S.last + 1) g).FD) (hg : Blk w' g 122 #[.slice none 0 0, .int .i64 0]) (hgn : w.heap.size ≤ g) :
    PR d R S w (R.opened (S.last + 1) g) S.opened w' := by
  refine ⟨h.opened hfb hn hf hb hm hg hgn, hf.mono (fun k _ hk => ?_), fun k hk => ?_⟩
  · rcases hk with hk | hk
    · exact .inl hk
    · exact .inr (.inr (.inr (.inl (hk ▸ hfb))))
  · rcases hk with hk | hk | hk | hk | hk | ⟨m, q, hq, hk⟩
    · exact .inl (.inl hk)
    · exact .inl (.inr (.inl hk))
    · exact .inl (.inr (.inr (.inl hk)))
    · exact .inl (.inr (.inr (.inr (.inl hk))))
    · exact .inl (.inr (.inr (.inr (.inr (.inl hk)))))
    · have hq' : upd S.file (S.last + 1) _ m = some q := hq
      by_cases e : m = S.last + 1
      · subst e
        have er : (R.opened (S.last + 1) g).rc (S.last + 1) = (g, .slice none 0 0) := upd_same _ _ _
        rw [er] at hk
        rcases hk with hk | hk
        · exact .inr (by simp at hk; omega)
        · simp [Value.ownBlock] at hk
      · rw [upd_other _ _ e] at hq'
        have er : (R.opened (S.last + 1) g).rc m = R.rc m := upd_other _ _ e
        rw [er] at hk
        exact .inl (.inr (.inr (.inr (.inr (.inr ⟨m, q, hq', hk⟩)))))

end Go.Proofs.YtpeafckomahjgaaGreatDoor
