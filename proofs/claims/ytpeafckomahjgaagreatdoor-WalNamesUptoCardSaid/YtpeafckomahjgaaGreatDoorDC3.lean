/- The calls, as a law sees them: a disk lies from block B on, and keeps what every disk keeps. -/
import Derived.Test.YtpeafckomahjgaaGreatDoorDC2
namespace Go.Proofs.YtpeafckomahjgaaGreatDoor
open Go.RowKit Go.Maps Go.Sort
set_option linter.unusedVariables false

structure Dsk (w : World) (B d N : Nat) (S : AS) : Prop where
  inv : Inv N S
  mem : ∃ R, At w d R S ∧ ∀ k, foot d R S k → B ≤ k
  big : N ≤ 1000000000000
  base : B ≤ w.heap.size

theorem Dsk.of_post {w w' : World} {B d M : Nat} {R : Rp} {S S' : AS} (hb : B ≤ w.heap.size) (hf : ∀ k, foot d R S k → B ≤ k) (hP : Post d R S w S' w') (hi : Inv M S') (hM : M ≤ 1000000000000) : Dsk w' B d M S' ∧ Below B w w' := by
  obtain ⟨R', P⟩ := hP
  have hbl : Below B w w' := P.fr.below_of hb hf
  refine ⟨⟨hi, ⟨R', P.at_, fun k hk => ?_⟩, hM, Nat.le_trans hb hbl.size⟩, hbl⟩
  rcases P.foot k hk with h | h
  · exact hf k h
  · omega
theorem Dsk.keep {w w' : World} {B d N : Nat} {S : AS} (h : Dsk w B d N S) (hf : Fr No w w') : Dsk w' B d N S := by
  obtain ⟨R, h1, h2⟩ := h.mem
  exact ⟨h.inv, ⟨R, h1.keep hf, h2⟩, h.big, Nat.le_trans h.base hf.size⟩
theorem Dsk.below {w w' : World} {B d N : Nat} {S : AS} (h : Dsk w B d N S) (hb : Below w.heap.size w w') : Dsk w' B d N S := h.keep (Fr.of_below hb)
theorem Dsk.more {w : World} {B d N M : Nat} {S : AS} (h : Dsk w B d N S) (hNM : N ≤ M) (hM : M ≤ 1000000000000) : Dsk w B d M S := ⟨h.inv.mono hNM, h.mem, hM, h.base⟩
theorem fr_base {w w' : World} {B d N : Nat} {S : AS} (h : Dsk w B d N S) (hf : Fr No w w') : Below B w w' := hf.below.mono h.base
theorem Dsk.wf {w : World} {B d N : Nat} {S : AS} (h : Dsk w B d N S) : WF S := h.inv.wf (by have := h.big; omega)
theorem Dsk.size {w : World} {B d N : Nat} {S : AS} (h : Dsk w B d N S) : Maps.size S.names ≤ 1000000 := by have := h.inv.names.small; omega

def AS.write (S : AS) (l data : List UInt8) : AS × Int :=
  if checkOf S.on [l] = 0 then
    if S.room < usedOf S.file S.names + data.length then (S, 12)
    else match look S.names l with
      | some n => match S.file n with
        | some r => ((S.written n r data).step, S.stepE)
        | none => (S, 12)
      | none => if 64 ≤ Maps.size S.names then (S, 12) else (((S.made l).written (S.last + 1) { bytes := [], firm := 0 } data).step, S.stepE)
  else (S, checkOf S.on [l])

theorem checkOf_ok {on : Bool} {l : List UInt8} (h : checkOf on [l] = 0) : nameOk l = true := by
  cases on
  · simp [checkOf] at h
  · unfold checkOf at h
    simp at h
    exact h
theorem used_nonneg {f : Int → Option FR} {D : DU} : 0 ≤ usedOf f D := by
  unfold usedOf
  cases D with
  | map es => exact sum_nonneg _ _
  | _ => simp

theorem len_le_used {f : Int → Option FR} {D : DU} (c : Canon D) (hi : Ints D) {l : List UInt8} {n : Int} {r : FR} (hl : look D l = some n) (hr : f n = some r) : (r.bytes.length : Int) ≤ usedOf f D := by
  obtain ⟨es, p, rfl, hp, hk, hv, hu⟩ := find_entry c (look_some hi hl)
  unfold usedOf
  simp only
  have : ∀ es : List (Lit × DU), p ∈ es → flen f p ≤ (es.map (flen f)).sum := by
    intro es
    induction es with
    | nil => intro h; cases h
    | cons q es ih =>
      intro h
      have h1 := sum_nonneg f es
      have h2 := flen_nonneg f q
      rcases List.mem_cons.1 h with rfl | h
      · simp; omega
      · have := ih h; simp; omega
  have h1 := this es hp
  have h2 : flen f p = r.bytes.length := by unfold flen; rw [hv]; simp only [hr]
  omega

theorem m_write {w : World} {B d N : Nat} {S : AS} (h : Dsk w B d N S) (hN : N + 1 ≤ 1000000000000) (l : List UInt8) (data : List UInt8) (hl : l.length ≤ maxLen) (hd : data.length ≤ maxLen) :
    Calls Tryz.prog 27 #[.pointer (some ⟨d, 0, none⟩), .string ⟨l.toArray⟩, .string ⟨data.toArray⟩] w fun e w' => e = .returned (.int .i64 (S.write l data).2) ∧ Dsk w' B d (N + 1) (S.write l data).1 ∧ Below B w w' := by
  obtain ⟨R, hA, hf⟩ := h.mem
  have hW := h.wf
  have hsz := h.size
  have hsd : (⟨data.toArray⟩ : ByteArray).size = data.length := by simp [ByteArray.size]
  have hlo := h.inv.loose
  have hla := h.inv.last
  have hbig := h.big
  have stay : ∀ {E : Int}, Calls Tryz.prog 27 #[.pointer (some ⟨d, 0, none⟩), .string ⟨l.toArray⟩, .string ⟨data.toArray⟩] w (fun e w' => e = .returned (.int .i64 E) ∧ Fr No w w') →
      Calls Tryz.prog 27 #[.pointer (some ⟨d, 0, none⟩), .string ⟨l.toArray⟩, .string ⟨data.toArray⟩] w fun e w' => e = .returned (.int .i64 E) ∧ Dsk w' B d (N + 1) S ∧ Below B w w' := fun hc => by
    refine hc.mono ?_
    rintro e w' ⟨he, hfr⟩
    exact ⟨he, (h.keep hfr).more (by omega) hN, fr_base h hfr⟩
  unfold AS.write
  by_cases hE : checkOf S.on [l] = 0
  · rw [if_pos hE]
    by_cases hful : S.room < usedOf S.file S.names + data.length
    · rw [if_pos hful]
      exact stay (write_full1 d R S l (look S.names l) ⟨data.toArray⟩ w hA hW hl hE rfl hsz (by rw [hsd]; exact hd) (by rw [hsd]; exact hful))
    · rw [if_neg hful]
      cases hn : look S.names l with
      | some n =>
        obtain ⟨r, hr⟩ := hW.ref l n hn
        simp only [hr]
        refine (write_old d R S l n r data w hA hW hl hE hn hr hsz (by omega)).mono ?_
        rintro e w' ⟨he, hP⟩
        have hlen := len_le_used (h.inv.names.canon.canon law9.one) h.inv.names.ints hn hr
        have hroom := h.inv.room
        have hfi := h.inv.file n r hr
        have hi : Inv (N + 1) (S.written n r data).step := ((h.inv.turn hr (r' := { bytes := r.bytes ++ data, firm := r.firm }) (by simp; omega) (by simp; omega)).step).mono (by omega)
        exact ⟨he, Dsk.of_post h.base hf hP hi hN⟩
      | none =>
        simp only
        by_cases h64 : 64 ≤ Maps.size S.names
        · rw [if_pos h64]
          exact stay (write_full2 d R S l data w hA hW hl hE hn hsz (by omega) h64)
        · rw [if_neg h64]
          refine (write_new d R S l data w hA hW hl hE hn hsz (by omega) (by omega) (by omega) (by omega)).mono ?_
          rintro e w' ⟨he, hP⟩
          have hm := h.inv.made (checkOf_ok hE) hn (by omega)
          have hroom := h.inv.room
          have hu := @used_nonneg S.file S.names
          have hi := (hm.turn (n := S.last + 1) (r := { bytes := [], firm := 0 }) (upd_same _ _ _) (r' := { bytes := [] ++ data, firm := 0 }) (by simp) (by simp; omega)).step
          exact ⟨he, Dsk.of_post h.base hf hP hi hN⟩
  · rw [if_neg hE]
    exact stay (write_bad d R S l ⟨data.toArray⟩ _ w hA hl rfl hE)

def AS.read (S : AS) (l : List UInt8) : List UInt8 × Int :=
  if checkOf S.on [l] = 0 then
    match look S.names l with
    | some n => match S.file n with
      | some r => (r.bytes, 0)
      | none => ([], 11)
    | none => ([], 11)
  else ([], checkOf S.on [l])

theorem m_read {w : World} {B d N : Nat} {S : AS} (h : Dsk w B d N S) (l : List UInt8) (hl : l.length ≤ maxLen) :
    Calls Tryz.prog 47 #[.pointer (some ⟨d, 0, none⟩), .string ⟨l.toArray⟩] w fun e w' => e = .returned (.tuple #[.string ⟨(S.read l).1.toArray⟩, .int .i64 (S.read l).2]) ∧ Fr No w w' := by
  obtain ⟨R, hA, hf⟩ := h.mem
  unfold AS.read
  by_cases hE : checkOf S.on [l] = 0
  · rw [if_pos hE]
    cases hn : look S.names l with
    | none => exact read_none d R S l w hA hl hE hn
    | some n =>
      obtain ⟨r, hr⟩ := h.wf.ref l n hn
      simp only [hr]
      exact read_some d R S l n r w hA h.wf hl hE hn hr
  · rw [if_neg hE]
    exact read_bad d R S l _ w hA hl rfl hE

theorem m_sync {w : World} {B d N : Nat} {S : AS} (h : Dsk w B d N S) (l : List UInt8) (hl : l.length ≤ maxLen) :
    Calls Tryz.prog 29 #[.pointer (some ⟨d, 0, none⟩), .string ⟨l.toArray⟩] w fun e w' => e = .returned (.int .i64 (S.sync l).2) ∧ Dsk w' B d N (S.sync l).1 ∧ Below B w w' := by
  obtain ⟨R, hA, hf⟩ := h.mem
  refine (sync_any d R S l w hA h.wf hl).mono ?_
  rintro e w' ⟨he, hP⟩
  refine ⟨he, Dsk.of_post h.base hf hP ?_ h.big⟩
  unfold AS.sync
  by_cases hE : checkOf S.on [l] = 0
  · rw [if_pos hE]
    cases hn : look S.names l with
    | none => exact h.inv
    | some n =>
      cases hr : S.file n with
      | none => simp only [hr]; exact h.inv
      | some r =>
        simp only [hr]
        have hst := h.inv.step
        split
        · exact hst.turn (n := n) (r := r) (by rw [(step_same S).2.2.2.1]; exact hr) (r' := { bytes := r.bytes, firm := r.bytes.length }) (Nat.le_refl _) (h.inv.file n r hr).2.2.2
        · exact hst
  · rw [if_neg hE]; exact h.inv

def AS.settle (S : AS) : AS × Int :=
  if S.on then (if S.stepE = 0 then (S.step.settled, 0) else (S.step, 13)) else (S, 13)

theorem m_settle {w : World} {B d N : Nat} {S : AS} (h : Dsk w B d N S) :
    Calls Tryz.prog 30 #[.pointer (some ⟨d, 0, none⟩)] w fun e w' => e = .returned (.int .i64 S.settle.2) ∧ Dsk w' B d N S.settle.1 ∧ Below B w w' := by
  obtain ⟨R, hA, hf⟩ := h.mem
  unfold AS.settle
  by_cases hon : S.on = true
  · rw [if_pos hon]
    rcases stepE_01 S with he | he
    · rw [if_pos he]
      refine (settle_ok d R S w hA h.wf h.size hon he).mono ?_
      rintro e w' ⟨h1, hP⟩
      exact ⟨h1, Dsk.of_post h.base hf hP h.inv.step.settled h.big⟩
    · rw [if_neg (by rw [he]; decide)]
      refine (settle_out d R S w hA h.inv.left.2 hon he).mono ?_
      rintro e w' ⟨h1, hP⟩
      exact ⟨h1, Dsk.of_post h.base hf hP.post h.inv.step h.big⟩
  · rw [if_neg hon]
    have hoff : S.on = false := by simpa using hon
    refine (settle_off d w (by have := (cells_all hA).2.1; rw [hoff] at this; exact this)).mono ?_
    rintro e w' ⟨h1, rfl⟩
    exact ⟨h1, h, Below.refl _ _⟩

def AS.rename (S : AS) (a b : List UInt8) : AS × Int :=
  if checkOf S.on [a, b] = 0 then
    match look S.names a with
    | none => (S, 11)
    | some n => if a = b then (S.step, S.stepE) else ((S.renamed a b n).step, S.stepE)
  else (S, checkOf S.on [a, b])

theorem checkOf_ok2 {on : Bool} {a b : List UInt8} (h : checkOf on [a, b] = 0) : nameOk a = true ∧ nameOk b = true := by
  cases on
  · simp [checkOf] at h
  · unfold checkOf at h
    simp at h
    exact h

def AS.remove (S : AS) (a : List UInt8) : AS × Int :=
  if checkOf S.on [a] = 0 then
    match look S.names a with
    | none => (S, 11)
    | some n => ((S.removed a).step, S.stepE)
  else (S, checkOf S.on [a])

theorem m_remove {w : World} {B d N : Nat} {S : AS} (h : Dsk w B d N S) (hN : N + 1 ≤ 1000000000000) (a : List UInt8) (ha : a.length ≤ maxLen) :
    Calls Tryz.prog 252 #[.pointer (some ⟨d, 0, none⟩), .string ⟨a.toArray⟩] w fun e w' => e = .returned (.int .i64 (S.remove a).2) ∧ Dsk w' B d (N + 1) (S.remove a).1 ∧ Below B w w' := by
  obtain ⟨R, hA, hf⟩ := h.mem
  have hlo := h.inv.loose
  unfold AS.remove
  by_cases hE : checkOf S.on [a] = 0
  · rw [if_pos hE]
    cases hn : look S.names a with
    | none =>
      refine (remove_err d a none 11 w (by decide) (find_none d R S a w hA ha hE hn)).mono ?_
      rintro e w' ⟨he, hfr⟩
      exact ⟨he, (h.keep hfr).more (by omega) hN, fr_base h hfr⟩
    | some n =>
      obtain ⟨r, hr⟩ := h.wf.ref a n hn
      refine (remove_some d R S a n r w hA h.wf ha hE hn hr h.size (by omega)).mono ?_
      rintro e w' ⟨he, hP⟩
      exact ⟨he, Dsk.of_post h.base hf hP (h.inv.removed (checkOf_ok hE)).step hN⟩
  · rw [if_neg hE]
    refine (remove_err d a none _ w hE (find_bad d R S a _ w hA ha rfl hE)).mono ?_
    rintro e w' ⟨he, hfr⟩
    exact ⟨he, (h.keep hfr).more (by omega) hN, fr_base h hfr⟩

theorem not_foot {w : World} {d g : Nat} {R : Rp} {S : AS} (hA : At w d R S) {cs : Array Value} {fz : Nat × Nat} (hg : w.heap[g]? = some (.cells cs 3 fz)) : ¬ foot d R S g := by
  have ne : ∀ {t : TypeId} {cs' : Array Value}, w.heap[g]? = some (.cells cs' t (0, 0)) → t ≠ 3 → False := fun h1 h2 => by
    rw [hg] at h1
    injection h1 with h1
    injection h1 with _ h3
    exact h2 h3.symm
  have mp : ∀ {K : TypeId} {E : Value → Option (DU × List MemPlace)} {m : Option Nat} {D : DU}, MapAt w Tryz.prog K E m D → m = some g → False := by
    rintro K E m D hm rfl
    obtain ⟨es, c, he⟩ := owns_map (b := g) hm
    exact map_ne_blk he hg rfl
  rintro (rfl | hk | hk | hk | hk | ⟨n, r, hr, hk⟩)
  · exact ne hA.blk (by decide)
  · exact mp hA.names hk
  · exact mp hA.firm hk
  · exact mp hA.files hk
  · obtain ⟨cur, hc⟩ := own_row hA.loose hk
    exact ne hc (by decide)
  · have hfd := hA.fd n
    rw [hr] at hfd
    rcases hk with rfl | hk
    · exact ne hfd.2.1 (by decide)
    · obtain ⟨cur, hc⟩ := own_row hfd.2.2 hk
      exact ne hc (by decide)

theorem m_crash {w : World} {B d N : Nat} {S : AS} (h : Dsk w B d N S) (g : Nat) (A : Option Addr) (n c : Nat) (ps : List Int) (hp : PicksAt w g A n c ps) (hg : 0 < n → g < B ∨ ∃ cs fz, w.heap[g]? = some (.cells cs 3 fz)) :
    Calls Tryz.prog 23 #[.pointer (some ⟨d, 0, none⟩), .slice A n c] w fun e w' => e = .returned (.tuple #[]) ∧ Dsk w' B d N (S.crashed ps) ∧ Below B w w' := by
  obtain ⟨R, hA, hf⟩ := h.mem
  have hlo := h.inv.loose
  have hbig := h.big
  have hla := h.inv.last
  refine (crash_any d R S g A n c ps w hA hp (fun hn hfo => ?_) (by omega) (fun k hk => by have := (h.inv.good k hk).small; omega) (fun c hc => ?_) (fun k hk => (h.inv.good k hk).ref) (fun n r hr => (h.inv.file n r hr).2.2) (fun m r hr => h.wf.wf hr)).mono ?_
  · rcases hg hn with h1 | ⟨cs, fz, h1⟩
    · have := hf g hfo; omega
    · exact not_foot hA h1 hfo
  · have := h.inv.chs c hc
    exact ⟨by omega, by omega, wf64 (by omega) (by omega)⟩
  · rintro e w' ⟨he, hP⟩
    exact ⟨he, Dsk.of_post h.base hf hP (h.inv.crashed ps) h.big⟩

theorem m_arm {w : World} {B d N : Nat} {S : AS} (h : Dsk w B d N S) (n : Int) (hn : n ≤ 9223372036854775807) :
    Calls Tryz.prog 22 #[.pointer (some ⟨d, 0, none⟩), .int .i64 n] w fun e w' => e = .returned (.tuple #[]) ∧ Dsk w' B d N (S.arm n) ∧ Below B w w' := by
  obtain ⟨R, hA, hf⟩ := h.mem
  refine (arm_any d R S n w hA).mono ?_
  rintro e w' ⟨he, h1, h2⟩
  exact ⟨he, Dsk.of_post h.base hf (PR.own (S := S) h1 h2 rfl).post (h.inv.arm n hn) h.big⟩
theorem m_limit {w : World} {B d N : Nat} {S : AS} (h : Dsk w B d N S) (n : Int) :
    Calls Tryz.prog 35 #[.pointer (some ⟨d, 0, none⟩), .int .i64 n] w fun e w' => e = .returned (.tuple #[]) ∧ Dsk w' B d N (S.limit n) ∧ Below B w w' := by
  obtain ⟨R, hA, hf⟩ := h.mem
  refine (limit_any d R S n w hA).mono ?_
  rintro e w' ⟨he, h1, h2⟩
  exact ⟨he, Dsk.of_post h.base hf (PR.own (S := S) h1 h2 rfl).post (h.inv.limit n) h.big⟩
theorem m_on {w : World} {B d N : Nat} {S : AS} (h : Dsk w B d N S) : Calls Tryz.prog 49 #[.pointer (some ⟨d, 0, none⟩)] w fun e w' => e = .returned (.bool S.on) ∧ w = w' := by
  obtain ⟨R, hA, hf⟩ := h.mem
  exact on_any d R S w hA
theorem m_steps {w : World} {B d N : Nat} {S : AS} (h : Dsk w B d N S) : Calls Tryz.prog 46 #[.pointer (some ⟨d, 0, none⟩)] w fun e w' => e = .returned (.int .i64 S.steps) ∧ w = w' := by
  obtain ⟨R, hA, hf⟩ := h.mem
  exact steps_any d R S w hA
theorem m_used {w : World} {B d N : Nat} {S : AS} (h : Dsk w B d N S) (hon : S.on = true) : Calls Tryz.prog 38 #[.pointer (some ⟨d, 0, none⟩)] w fun e w' => e = .returned (.int .i64 (usedOf S.file S.names)) ∧ Fr No w w' := by
  obtain ⟨R, hA, hf⟩ := h.mem
  obtain ⟨nb, fb, e1, e2⟩ := hA.onn hon
  exact used_any d R S nb w hA h.wf e1 h.size
theorem m_list {w : World} {B d N : Nat} {S : AS} (h : Dsk w B d N S) (hon : S.on = true) :
    Calls Tryz.prog 44 #[.pointer (some ⟨d, 0, none⟩)] w fun e w' => ∃ A c, e = .returned (.slice A (sortedKeys S.names).length c) ∧ w'.ownsRow w.heap.size 9 1 (.slice A (sortedKeys S.names).length c) (sortedKeys S.names).length ((sortedKeys S.names).map encStr) ∧ Fr No w w' := by
  obtain ⟨R, hA, hf⟩ := h.mem
  exact list_on d R S w hA hon h.size
theorem m_new (room : Int) (w : World) (B : Nat) (hB : B ≤ w.heap.size) :
    Calls Tryz.prog 11 #[.int .i64 room] w fun e w' => ∃ d, e = .returned (.pointer (some ⟨d, 0, none⟩)) ∧ Dsk w' B d 0 (AS.new room) ∧ Fr No w w' := by
  refine (new_any room w).mono ?_
  rintro e w' ⟨d, R, he, hA, hfr, hf⟩
  exact ⟨d, he, ⟨inv_new room, ⟨R, hA, fun k hk => by have := hf k hk; omega⟩, by omega, Nat.le_trans hB hfr.size⟩, hfr⟩

end Go.Proofs.YtpeafckomahjgaaGreatDoor
