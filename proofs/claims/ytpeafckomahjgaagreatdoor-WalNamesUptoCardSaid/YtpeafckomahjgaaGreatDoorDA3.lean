/- What a disk is: the state as the document has it, and how it lies in memory. -/
import Derived.Test.YtpeafckomahjgaaGreatDoorDL1
namespace Go.Proofs.YtpeafckomahjgaaGreatDoor
open Go.RowKit Go.Maps
set_option linter.unusedVariables false

/-- A loose change of names. -/
structure Ch where
  frm : List UInt8
  to : List UInt8
  file : Int
/-- A file. -/
structure FR where
  bytes : List UInt8
  firm : Nat
/-- A disk. -/
structure AS where
  room : Int
  on : Bool
  armed : Bool
  left : Int
  steps : Int
  last : Int
  names : DU
  firm : DU
  loose : List Ch
  file : Int → Option FR

def Ch.cells (c : Ch) : List Value := [.string ⟨c.frm.toArray⟩, .string ⟨c.to.toArray⟩, .int .i64 c.file]
def byteV (u : UInt8) : Value := .int .u8 u.toNat

/-- Where it lies. -/
structure Rp where
  nm : Option Nat
  fm : Option Nat
  fb : Option Nat
  lv : Value
  rc : Int → Nat × Value
  FD : DU

def cellsOf (S : AS) (R : Rp) : Array Value :=
  #[.int .i64 S.room, .bool S.on, .bool S.armed, .int .i64 S.left, .int .i64 S.steps, .map R.nm, .map R.fm, R.lv, .map R.fb, .int .i64 S.last]


/-- How file n lies. -/
def FileAt (w : World) (R : Rp) (n : Int) : Option FR → Prop
  | none => has R.FD (.int .i64 n) = false
  | some r => (∀ z, R.FD.atKey (.int .i64 n) z = .lit (.int .i64 (R.rc n).1)) ∧ Blk w (R.rc n).1 122 #[(R.rc n).2, .int .i64 r.firm] ∧ w.ownsRow 0 5 1 (R.rc n).2 r.bytes.length (r.bytes.map byteV)

structure At (w : World) (d : Nat) (R : Rp) (S : AS) : Prop where
  blk : Blk w d 84 (cellsOf S R)
  names : MapAt w Tryz.prog 9 (plainElem Tryz.prog 3) R.nm S.names
  firm : MapAt w Tryz.prog 9 (plainElem Tryz.prog 3) R.fm S.firm
  files : MapAt w Tryz.prog 3 ptrElem R.fb R.FD
  loose : w.ownsRow 0 108 3 R.lv S.loose.length (S.loose.flatMap Ch.cells)
  fd : ∀ n, FileAt w R n (S.file n)
  ne1 : ∀ b, R.nm = some b → R.fm ≠ some b
  ne2 : ∀ b, R.nm = some b → R.fb ≠ some b
  ne3 : ∀ b, R.fm = some b → R.fb ≠ some b
  ap : ∀ n m r q, n ≠ m → S.file n = some r → S.file m = some q → (R.rc n).1 ≠ (R.rc m).1 ∧ ∀ k, (R.rc n).2.ownBlock = some k → (R.rc m).2.ownBlock ≠ some k
  onn : S.on = true → ∃ b c, R.nm = some b ∧ R.fb = some c

/-- The blocks that are the disk's. -/
def foot (d : Nat) (R : Rp) (S : AS) (k : Nat) : Prop :=
  k = d ∨ R.nm = some k ∨ R.fm = some k ∨ R.fb = some k ∨ R.lv.ownBlock = some k ∨ ∃ n r, S.file n = some r ∧ (k = (R.rc n).1 ∨ (R.rc n).2.ownBlock = some k)

theorem FileAt.of {w w' : World} {R : Rp} {n : Int} {o : Option FR} (h : FileAt w R n o) (hk : ∀ r, o = some r → ∀ k, (k = (R.rc n).1 ∨ (R.rc n).2.ownBlock = some k) → w'.heap[k]? = w.heap[k]?) : FileAt w' R n o := by
  cases o with
  | none => exact h
  | some r =>
    obtain ⟨h1, h2, h3⟩ := h
    exact ⟨h1, h2.of (hk r rfl _ (.inl rfl)), own_of h3 fun k hb => hk r rfl k (.inr hb)⟩

theorem At.of {w w' : World} {d : Nat} {R : Rp} {S : AS} (h : At w d R S) (hk : ∀ k, foot d R S k → w'.heap[k]? = w.heap[k]?) : At w' d R S where
  blk := h.blk.of (hk _ (.inl rfl))
  names := h.names.of fun b hb => hk _ (.inr (.inl hb))
  firm := h.firm.of fun b hb => hk _ (.inr (.inr (.inl hb)))
  files := h.files.of fun b hb => hk _ (.inr (.inr (.inr (.inl hb))))
  loose := own_of h.loose fun b hb => hk _ (.inr (.inr (.inr (.inr (.inl hb)))))
  fd n := (h.fd n).of fun r hr k hb => hk _ (.inr (.inr (.inr (.inr (.inr ⟨n, r, hr, hb⟩)))))
  ne1 := h.ne1
  ne2 := h.ne2
  ne3 := h.ne3
  ap := h.ap
  onn := h.onn

theorem At.lt {w : World} {d : Nat} {R : Rp} {S : AS} (h : At w d R S) : ∀ k, foot d R S k → k < w.heap.size := by
  intro k hk
  rcases hk with rfl | hk | hk | hk | hk | ⟨n, r, hr, hk⟩
  · exact h.blk.lt
  · exact h.names.lt k hk
  · exact h.firm.lt k hk
  · exact h.files.lt k hk
  · exact (h.loose.lt k hk).2
  · have := h.fd n
    rw [hr] at this
    obtain ⟨_, h2, h3⟩ := this
    rcases hk with rfl | hk
    · exact h2.lt
    · exact (h3.lt k hk).2

theorem At.fr {w w' : World} {d : Nat} {R : Rp} {S : AS} (h : At w d R S) {F : Nat → Prop} (hf : Fr F w w') (hd : ∀ k, F k → ¬ foot d R S k) : At w' d R S :=
  h.of fun k hk => hf.block k (h.lt k hk) fun hF => hd k hF hk
theorem At.keep {w w' : World} {d : Nat} {R : Rp} {S : AS} (h : At w d R S) (hf : Fr No w w') : At w' d R S := h.fr hf fun _ hF => hF.elim
theorem At.drewN {w : World} {d : Nat} {R : Rp} {S : AS} (h : At w d R S) (n : Nat) : At (w.drewN n) d R S := h.keep ((Fr.refl _ _).drewN n)
theorem At.below {w w' : World} {d : Nat} {R : Rp} {S : AS} (h : At w d R S) (hb : Below w.heap.size w w') : At w' d R S := h.keep (Fr.of_below hb)

/-- d's own block is none of the others. -/
theorem At.apart {w : World} {d : Nat} {R : Rp} {S : AS} (h : At w d R S) : R.nm ≠ some d ∧ R.fm ≠ some d ∧ R.fb ≠ some d ∧ R.lv.ownBlock ≠ some d ∧ ∀ n r, S.file n = some r → (R.rc n).1 ≠ d ∧ (R.rc n).2.ownBlock ≠ some d := by
  have hb := h.blk
  have mp : ∀ {k : TypeId} {E : Value → Option (DU × List MemPlace)} {m : Option Nat} {D : DU}, MapAt w Tryz.prog k E m D → m ≠ some d := by
    rintro k E m D hm rfl
    obtain ⟨es, c, he⟩ := owns_map (b := d) hm
    exact map_ne_blk he hb rfl
  refine ⟨mp h.names, mp h.firm, mp h.files, fun e => own_blk_ne h.loose e hb (by decide) rfl, fun n r hr => ?_⟩
  have hf := h.fd n
  rw [hr] at hf
  obtain ⟨_, h2, h3⟩ := hf
  exact ⟨h2.ne_ hb (by decide), fun e => own_blk_ne h3 e hb (by decide) rfl⟩

/-- d alone -/
def One (d k : Nat) : Prop := k = d
theorem Fr.set1 {d : Nat} {a w : World} (h : Fr (One d) a w) (i : Nat) (u : Value) : Fr (One d) a (w.setCell ⟨d, i, none⟩ u) := h.setCell (p := ⟨d, i, none⟩) (fun _ => rfl) u
theorem Fr.set0 (d : Nat) (w : World) (i : Nat) (u : Value) : Fr (One d) w (w.setCell ⟨d, i, none⟩ u) := (Fr.refl _ w).set1 i u

/-- Only d's own block has turned. -/
theorem At.own {w w' : World} {d : Nat} {R : Rp} {S S' : AS} (h : At w d R S) (hf : Fr (One d) w w') (hb : Blk w' d 84 (cellsOf S' R))
    (e1 : S'.names = S.names) (e2 : S'.firm = S.firm) (e3 : S'.loose = S.loose) (e4 : S'.file = S.file) (e5 : S'.on = true → ∃ b c, R.nm = some b ∧ R.fb = some c) : At w' d R S' := by
  obtain ⟨a1, a2, a3, a4, a5⟩ := h.apart
  have hk : ∀ k, foot d R S k → k ≠ d → w'.heap[k]? = w.heap[k]? := fun k hk hn => hf.block k (h.lt k hk) hn
  exact {
    blk := hb
    names := by rw [e1]; exact h.names.of fun b hb => hk _ (.inr (.inl hb)) (fun e => a1 (e ▸ hb))
    firm := by rw [e2]; exact h.firm.of fun b hb => hk _ (.inr (.inr (.inl hb))) (fun e => a2 (e ▸ hb))
    files := h.files.of fun b hb => hk _ (.inr (.inr (.inr (.inl hb)))) (fun e => a3 (e ▸ hb))
    loose := by rw [e3]; exact own_of h.loose fun b hb => hk _ (.inr (.inr (.inr (.inr (.inl hb))))) (fun e => a4 (e ▸ hb))
    fd := fun n => by
      rw [e4]
      exact (h.fd n).of fun r hr k hq => hk _ (.inr (.inr (.inr (.inr (.inr ⟨n, r, hr, hq⟩))))) (fun e => by
        rcases hq with hq | hq
        · exact (a5 n r hr).1 (hq ▸ e)
        · exact (a5 n r hr).2 (e ▸ hq))
    ne1 := h.ne1
    ne2 := h.ne2
    ne3 := h.ne3
    ap := by rw [e4]; exact h.ap
    onn := e5 }

/-- Where there is a file there is a table of them. -/
theorem At.fbs {w : World} {d : Nat} {R : Rp} {S : AS} (h : At w d R S) {n : Int} {r : FR} (hr : S.file n = some r) : ∃ c, R.fb = some c := by
  cases hb : R.fb with
  | some c => exact ⟨c, rfl⟩
  | none =>
    have hf := h.files
    rw [hb] at hf
    have hD : R.FD = .map [] := hf
    have hfd := h.fd n
    rw [hr] at hfd
    have := hfd.1 .nil
    rw [hD] at this
    cases this

theorem At.cells {w : World} {d : Nat} {R : Rp} {S : AS} (h : At w d R S) (i : Nat) : w.cell? ⟨d, i, none⟩ = (cellsOf S R)[i]? := h.blk.cell i

end Go.Proofs.YtpeafckomahjgaaGreatDoor
