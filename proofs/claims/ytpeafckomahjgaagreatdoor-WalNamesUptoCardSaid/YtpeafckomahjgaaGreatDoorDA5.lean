/- The tables of names and of files, asked and written; find. -/
import Derived.Test.YtpeafckomahjgaaGreatDoorDA4
namespace Go.Proofs.YtpeafckomahjgaaGreatDoor
open Go.RowKit Go.Maps
set_option linter.unusedVariables false

/-! ### names, as a plain function -/
def look (D : DU) (s : List UInt8) : Option Int :=
  match D.atKey (.string s) .nil with
  | .lit (.int .i64 n) => some n
  | _ => none

theorem isKey (s : List UInt8) : WideAt.IsKeyLit (.string s) := by simp [WideAt.IsKeyLit]
theorem isKeyI (n : Int) : WideAt.IsKeyLit (.int .i64 n) := by simp [WideAt.IsKeyLit]
theorem key_ne {s t : List UInt8} (h : s ≠ t) : (Lit.string s) ≠ .string t := by simpa using h
theorem keyI_ne {s t : Int} (h : s ≠ t) : (Lit.int .i64 s) ≠ .int .i64 t := by simpa using h

theorem look_empty (s : List UInt8) : look (.map []) s = none := rfl
theorem look_put_same {D : DU} (h : IsMap D) (s : List UInt8) (n : Int) : look (D.put (.string s) (.lit (.int .i64 n))) s = some n := by
  unfold look; rw [atKey_put_same h (isKey s)]
theorem look_put_other {D : DU} {s t : List UInt8} (h : t ≠ s) (d : DU) : look (D.put (.string s) d) t = look D t := by
  unfold look; rw [atKey_put_other (key_ne h)]
theorem look_del_same {D : DU} (s : List UInt8) : look (D.del (.string s)) s = none := by
  unfold look; rw [atKey_del_same]
theorem look_del_other {D : DU} {s t : List UInt8} (h : t ≠ s) : look (D.del (.string s)) t = look D t := by
  unfold look; rw [atKey_del_other (key_ne h)]

/-- All that the table holds are numbers. -/
def Ints (D : DU) : Prop := ∀ s, has D (.string s) = true → ∃ n, ∀ z, D.atKey (.string s) z = .lit (.int .i64 n)
theorem atKey_any {D : DU} {k : Lit} (h : has D k = true) (y z : DU) : D.atKey k y = D.atKey k z := by
  cases D with
  | map es =>
    rw [has_eq, List.any_eq_true] at h
    obtain ⟨p, hp, hs⟩ := h
    simp only [DataW.atKey]
    cases hf : es.find? (fun p => p.1.sameKey k) with
    | some q => rfl
    | none => rw [List.find?_eq_none] at hf; exact absurd hs (hf p hp)
  | _ => simp [has] at h
theorem key9 (l : List UInt8) (hl : l.length ≤ maxLen) : keyOf Tryz.prog 9 (.string ⟨l.toArray⟩) = some (.string l) := by
  have := WideMaps.keyOf_string_mk (P := Tryz.prog) (k := 9) Tryz.underlying9 (s := ⟨l.toArray⟩) (by simpa [ByteArray.size] using hl)
  simpa using this
theorem key3 (n : Int) (hn : (Lit.int .i64 n).wf = true) : keyOf Tryz.prog 3 (.int .i64 n) = some (.int .i64 n) := keyOf_int_mk Tryz.underlying3 hn

theorem owns_key {w : World} {b n : Nat} {D : DU} {P : Program} {k : TypeId} {R : Value → Option (DU × List MemPlace)} (h : w.ownsMap P k R b n D) {kl : Lit} (hh : has D kl = true) : ∃ key, keyOf P k key = some kl := by
  obtain ⟨es, clock, hb, F, hs, rfl⟩ := h
  rw [has_eq, List.any_eq_true] at hh
  obtain ⟨p, hp, hsm⟩ := hh
  have hp' := mem_sorted.1 hp
  obtain ⟨x, hx, rfl⟩ := List.mem_map.1 hp'
  obtain ⟨y, hy⟩ := F.reads x hx
  have h1 := WideElems.rd_key hy
  rw [WideElems.rg_of hy] at hsm
  refine ⟨x.key, ?_⟩
  rw [h1]
  by_cases e : y.1 = kl
  · rw [e]
  · rw [sameKey_ne e] at hsm; cases hsm

theorem owns_ints {w : World} {b n : Nat} {D : DU} (h : w.ownsMap Tryz.prog 9 (plainElem Tryz.prog 3) b n D) : Ints D := by
  intro s hs
  obtain ⟨key, hk⟩ := owns_key h hs
  obtain ⟨c, _, hat, _⟩ := h.lookup_int law9 Tryz.underlying75 Tryz.underlying3 (Tryz.zeroValue3 w) hk
  exact ⟨c, fun z => by rw [atKey_any hs z (.lit (.int .i64 0)), hat]⟩
theorem MapAt.ints {w : World} {m : Option Nat} {D : DU} (h : MapAt w Tryz.prog 9 (plainElem Tryz.prog 3) m D) : Ints D := by
  cases m with
  | none => rw [show D = .map [] from h]; intro s hs; simp [has] at hs
  | some b => exact owns_ints (b := b) h
theorem has_look {D : DU} (h : Ints D) (s : List UInt8) : has D (.string s) = (look D s).isSome := by
  cases hh : has D (.string s) with
  | true =>
    obtain ⟨n, hn⟩ := h s hh
    unfold look; rw [hn .nil]; rfl
  | false =>
    unfold look; rw [atKey_of_not_has hh]; rfl
theorem look_some {D : DU} (h : Ints D) {s : List UInt8} {n : Int} (hl : look D s = some n) (z : DU) : D.atKey (.string s) z = .lit (.int .i64 n) := by
  have hh : has D (.string s) = true := by rw [has_look h, hl]; rfl
  obtain ⟨m, hm⟩ := h s hh
  unfold look at hl
  rw [hm .nil] at hl
  cases hl
  exact hm z

/-! ### the operations -/
theorem run_look_some {w : World} {b n : Nat} {D : DU} (h : w.ownsMap Tryz.prog 9 (plainElem Tryz.prog 3) b n D) {l : List UInt8} (hl : l.length ≤ maxLen) {c : Int} (hc : look D l = some c) :
    (Instr.lookup 75 (.map (some b)) (.string ⟨l.toArray⟩) true).run Tryz.prog w = .ok (.tuple #[.int .i64 c, .bool true]) w := by
  have hi := owns_ints h
  obtain ⟨v, ps, hr, hv⟩ := h.look_ok law9 Tryz.underlying75 (Tryz.zeroValue3 w) (plainElem_int Tryz.underlying3 (by decide)) (key9 l hl)
  rw [look_some hi hc] at hv
  obtain ⟨c', rfl, hc', _⟩ := plainElem_int_inv Tryz.underlying3 hv
  have : c = c' := by simpa using congrArg Prod.fst hc'
  subst this
  rw [hr, has_look hi, hc]; rfl
theorem run_look_none {w : World} {b n : Nat} {D : DU} (h : w.ownsMap Tryz.prog 9 (plainElem Tryz.prog 3) b n D) {l : List UInt8} (hl : l.length ≤ maxLen) (hc : look D l = none) :
    (Instr.lookup 75 (.map (some b)) (.string ⟨l.toArray⟩) true).run Tryz.prog w = .ok (.tuple #[.int .i64 0, .bool false]) w := by
  have hi := owns_ints h
  have hh : has D (.string l) = false := by rw [has_look hi, hc]; rfl
  obtain ⟨v, ps, hr, hv⟩ := h.look_ok law9 Tryz.underlying75 (Tryz.zeroValue3 w) (plainElem_int Tryz.underlying3 (by decide)) (key9 l hl)
  rw [atKey_of_not_has hh] at hv
  obtain ⟨c', rfl, hc', _⟩ := plainElem_int_inv Tryz.underlying3 hv
  have : (0 : Int) = c' := by simpa using congrArg Prod.fst hc'
  subst this
  rw [hr, hh]
theorem run_look1_some {w : World} {b n : Nat} {D : DU} (h : w.ownsMap Tryz.prog 9 (plainElem Tryz.prog 3) b n D) {l : List UInt8} (hl : l.length ≤ maxLen) {c : Int} (hc : look D l = some c) :
    (Instr.lookup 75 (.map (some b)) (.string ⟨l.toArray⟩) false).run Tryz.prog w = .ok (.int .i64 c) w := by
  have hi := owns_ints h
  obtain ⟨c', hr, hat, _⟩ := h.lookup_int law9 Tryz.underlying75 Tryz.underlying3 (Tryz.zeroValue3 w) (key9 l hl)
  rw [look_some hi hc] at hat
  have : c = c' := by simpa using hat
  subst this
  exact hr
theorem run_file {w : World} {b n : Nat} {D : DU} (h : w.ownsMap Tryz.prog 3 ptrElem b n D) {c : Int} (hw : (Lit.int .i64 c).wf = true) {g : Nat} (hc : ∀ z, D.atKey (.int .i64 c) z = .lit (.int .i64 g)) :
    (Instr.lookup 76 (.map (some b)) (.int .i64 c) false).run Tryz.prog w = .ok (.pointer (some ⟨g, 0, none⟩)) w := by
  obtain ⟨v, ps, hr, hv⟩ := h.lookup law3 Tryz.underlying76 (Tryz.zeroValue111 w) (zd := .nil) (zp := []) rfl (key3 c hw)
  rw [hc] at hv
  rw [hr, ptrElem_inv hv]

section
variable {ops : Array Oper} {rest : List Oper} {o : Oper} {a : Act} {Q : Exit → Act → World → Prop} {w : World}
theorem wpList_run (hg : o.guard = none) (t : TypeId) (m x : Operand) (ok : Bool) (hop : o.op = Op.lookup t m x ok) (vm vx v : Value) (hm : a.eval m = vm) (hx : a.eval x = vx)
    (hr : (Instr.lookup t vm vx ok).run Tryz.prog w = .ok v w) (hK : wpList Tryz.prog ops Q rest (a.put o.dst v) w) : wpList Tryz.prog ops Q (o :: rest) a w := by
  refine wpList_plain hg fun K' hK' => ?_
  unfold Oper.wp
  simp [execOp, hop, hm, hx, hr, Result.andThen]
  exact hK' _ _ hK
end

/-! ### find -/
theorem wf64 {n : Int} (h0 : -9223372036854775808 ≤ n) (h1 : n ≤ 9223372036854775807) : (Lit.int .i64 n).wf = true := WalkArith.wf_i64 ⟨h0, h1⟩

theorem At.alloc {w : World} {d : Nat} {R : Rp} {S : AS} (h : At w d R S) (o : Obj) : At (w.alloc o) d R S := h.keep ((Fr.refl _ w).alloc o)

theorem check_l (d : Nat) (ad : Addr) (l : List UInt8) (on : Bool) (E : Int) (w : World) (hE : checkOf on [l] = E) (hl : l.length ≤ maxLen) (hon : w.cell? ⟨d, 1, none⟩ = some (.bool on)) (hc : w.cell? ad = some (.string ⟨l.toArray⟩)) :
    Calls Tryz.prog 73 #[.pointer (some ⟨d, 0, none⟩), .slice (some ad) 1 1] w fun e w' => e = .returned (.int .i64 E) ∧ w = w' := by
  refine (check_one d ad ⟨l.toArray⟩ w on hon (by simpa [ByteArray.size] using hl) hc).mono ?_
  rintro e w' ⟨he, hw⟩
  exact ⟨by rw [he, ← hE], hw⟩

/-- check, called with one name that lies in a new row: what find and Write do. -/
theorem check_new (d : Nat) (R : Rp) (S : AS) (l : List UInt8) (E : Int) (w : World) (h : At w d R S) (hE : checkOf S.on [l] = E) (hl : l.length ≤ maxLen) :
    Calls Tryz.prog 73 #[.pointer (some ⟨d, 0, none⟩), .slice (some ⟨w.heap.size, 0, none⟩) 1 1] (w.alloc (.cells #[.string ⟨l.toArray⟩] 9)) fun e w' => e = .returned (.int .i64 E) ∧ w.alloc (.cells #[.string ⟨l.toArray⟩] 9) = w' :=
  check_l d _ l S.on E _ hE hl (cells_all (h.alloc _)).2.1 (by simp)

set_option maxHeartbeats 400000 in
theorem find_bad (d : Nat) (R : Rp) (S : AS) (l : List UInt8) (E : Int) (w : World) (h : At w d R S) (hl : l.length ≤ maxLen) (hE : checkOf S.on [l] = E) (hb : E ≠ 0) :
    Calls Tryz.prog 78 #[.pointer (some ⟨d, 0, none⟩), .string ⟨l.toArray⟩] w fun e w' => e = .returned (.tuple #[.pointer none, .int .i64 E]) ∧ Fr No w w' := by
  have hne2 : (E != 0) = true := by simpa using hb
  have hcon := check_new d R S l E w h hE hl
  clear hE hb hl
  go_enter Tryz.func78, Tryz.ntmps78
  go_wp2_with fail
  refine hcon.mono ?_
  rintro e w' ⟨rfl, rfl⟩
  go_wp2
  go_ret2
  exact ⟨rfl, (Fr.refl _ _).alloc _⟩

set_option maxHeartbeats 400000 in
theorem find_none (d : Nat) (R : Rp) (S : AS) (l : List UInt8) (w : World) (h : At w d R S) (hl : l.length ≤ maxLen) (hE : checkOf S.on [l] = 0) (hn : look S.names l = none) :
    Calls Tryz.prog 78 #[.pointer (some ⟨d, 0, none⟩), .string ⟨l.toArray⟩] w fun e w' => e = .returned (.tuple #[.pointer none, .int .i64 11]) ∧ Fr No w w' := by
  have hcon := check_new d R S l 0 w h hE hl
  have hon : S.on = true := by
    cases ho : S.on
    · rw [ho] at hE; simp [checkOf] at hE
    · rfl
  obtain ⟨nb, fb, e1, e2⟩ := h.onn hon
  have ha := h.alloc (.cells #[.string ⟨l.toArray⟩] 9)
  have hnm := ha.names
  rw [e1] at hnm
  have hrun := run_look_none (b := nb) hnm hl hn
  have c5 := (cells_all ha).2.2.2.2.2.1
  rw [e1] at c5
  clear hE hl hn h ha hnm hon e1 e2
  go_enter Tryz.func78, Tryz.ntmps78
  go_wp2_with fail
  refine hcon.mono ?_
  rintro e w' ⟨rfl, rfl⟩
  go_wp2
  go_ret2
  exact ⟨rfl, (Fr.refl _ _).alloc _⟩

set_option maxHeartbeats 400000 in
theorem find_some (d : Nat) (R : Rp) (S : AS) (l : List UInt8) (n : Int) (r : FR) (w : World) (h : At w d R S) (hl : l.length ≤ maxLen) (hE : checkOf S.on [l] = 0) (hn : look S.names l = some n) (hr : S.file n = some r) (hw : (Lit.int .i64 n).wf = true) :
    Calls Tryz.prog 78 #[.pointer (some ⟨d, 0, none⟩), .string ⟨l.toArray⟩] w fun e w' => e = .returned (.tuple #[.pointer (some ⟨(R.rc n).1, 0, none⟩), .int .i64 0]) ∧ Fr No w w' := by
  have hcon := check_new d R S l 0 w h hE hl
  have hon : S.on = true := by
    cases ho : S.on
    · rw [ho] at hE; simp [checkOf] at hE
    · rfl
  obtain ⟨nb, fb, e1, e2⟩ := h.onn hon
  have ha := h.alloc (.cells #[.string ⟨l.toArray⟩] 9)
  have hnm := ha.names
  have hfl := ha.files
  rw [e1] at hnm
  rw [e2] at hfl
  have hrun := run_look_some (b := nb) hnm hl hn
  have hfd := ha.fd n
  rw [hr] at hfd
  have hrun2 := run_file (b := fb) hfl hw hfd.1
  have c5 := (cells_all ha).2.2.2.2.2.1
  have c8 := (cells_all ha).2.2.2.2.2.2.2.2.1
  rw [e1] at c5
  rw [e2] at c8
  clear hE hl hn h ha hnm hon e1 e2 hfl hfd hr hw
  go_enter Tryz.func78, Tryz.ntmps78
  go_wp2_with fail
  refine hcon.mono ?_
  rintro e w' ⟨rfl, rfl⟩
  go_wp2
  go_ret2
  exact ⟨rfl, (Fr.refl _ _).alloc _⟩

end Go.Proofs.YtpeafckomahjgaaGreatDoor
