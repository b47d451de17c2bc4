/- The document's own scheduler: Pick. -/
import Derived.Test.YtnonidoeakhfdaaG3
import Derived.StillTailTactics
namespace Go.Proofs.Ytnonidoeakhfdaa
open Go.RowKit Go.Maps Go.Sort
set_option linter.unusedVariables false

section
variable {w w1 : World} {r : Nat} {V V' : Nat → Value} {Z Z' : ZS}
theorem PRr.post (h : PRr r V w V' Z' w1) : Postr r V w Z' w1 := ⟨V', h⟩
theorem Postr.pre {w0 : World} (h0 : RAt w0 r V Z) (hf : Fr No w0 w) (h : Postr r V w Z' w1) : Postr r V w0 Z' w1 := by
  obtain ⟨V', h⟩ := h
  exact ⟨V', (PRr.same h0 hf).trans h⟩
end

set_option maxHeartbeats 400000 in
theorem zpick_none (r : Nat) (V : Nat → Value) (Z : ZS) (n : Int) (w : World) (h : RAt w r V Z) (h64 : Z.tasks.length ≤ 64) (he : Z.ready = []) :
    Calls Try.prog 29 #[.pointer (some ⟨r, 0, none⟩), .int .i64 n] w fun e w' => e = .returned (.tuple #[.int .i64 0, .bool false]) ∧ Postr r V w Z w' := by
  have hr := zready r V Z w h h64
  have HH := Lib.hid h
  rw [he] at hr
  clear h he
  go_enter Try.func29, Try.ntmps29
  go_wp2_with (go_at_call 13; refine hr.mono ?_; rintro e w1 ⟨v, rfl, ho, hf⟩; have hlv : ∀ ty W, (Builtin.len_ #[29] ty #[v]).run Try.prog W = .ok (.int .i64 0) W := (fun ty W => own_len ho ty W); have HF := Lib.hid hf; clear ho hf)
  go_ret2
  exact ⟨rfl, (PRr.same HH.out HF.out).post⟩

/-- What Pick does once it knows who is ready. -/
structure ZPickAt (r : Nat) (V : Nat → Value) (p : Nat) (t pc : Int) (P : World → Prop) (w1 : World) : Prop where
  ex : ∃ g o, w1.cell? ⟨r, 1, none⟩ = some (V 0) ∧ (∀ W, (Instr.indexAt 27 (V 0) (.int .i64 (p : Nat))).run Try.prog W = .ok (.pointer (some ⟨g, o, none⟩)) W) ∧ w1.cell? ⟨g, o + 3, none⟩ = some (.int .i64 pc) ∧ w1.frozen? ⟨g, o + 3, none⟩ = false ∧
    P (w1.setCell ⟨g, o + 3, none⟩ (.int .i64 (pc + 1)))
  find : Calls Try.prog 39 #[.pointer (some ⟨r, 0, none⟩), .int .i64 t] w1 fun e w' => e = .returned (.int .i64 p) ∧ w1 = w'

set_option maxRecDepth 100000 in
set_option maxHeartbeats 2000000 in
theorem zpick_run (r p : Nat) (V : Nat → Value) (pc : Int) (P : World → Prop) (n m t : Int) (L : List Int) (w : World) (hr : Calls Try.prog 13 #[.pointer (some ⟨r, 0, none⟩)] w fun e w' => ∃ v, e = .returned v ∧ Own w w' v L ∧ Fr No w w')
    (hm : pk n = m) (hn : -9223372036854775808 ≤ n ∧ n ≤ 9223372036854775807) (h0 : 0 < L.length) (h1 : L.length ≤ 64) (k : Nat) (hk : m % (L.length : Int) = k) (hget : L[k]? = some t) (hpc : 0 ≤ pc ∧ pc ≤ 1000000) (hE : ∀ w1, Fr No w w1 → ZPickAt r V p t pc P w1) :
    Calls Try.prog 29 #[.pointer (some ⟨r, 0, none⟩), .int .i64 n] w fun e w' => e = .returned (.tuple #[.int .i64 t, .bool true]) ∧ P w' := by
  have hm0 : 0 ≤ m := by rw [← hm]; unfold pk; split <;> omega
  have hp0 : (0 : Int) < (L.length : Int) := by omega
  have hp1 : (L.length : Int) ≤ 64 := by omega
  have hkl := (List.getElem?_eq_some_iff.1 hget).1
  have HG := Lib.hid hget
  have HE := Lib.hid hE
  have HR := Lib.hid hr
  clear hget hE h0 h1 hr
  go_enter Try.func29, Try.ntmps29
  go_upto_if 14 with (go_at_call 13; refine HR.out.mono ?_; rintro e w1 ⟨v, rfl, ho, hf⟩; have hlv := fun ty W => own_len ho ty W; have HF := Lib.hid hf; have HO := Lib.hid ho; clear ho hf HR)
  go_cut [1] (fun mv wx => w1 = wx ∧ mv = .int .i64 m)
  case first =>
    by_cases hneg : n < 0
    · have e1 : -(n + 1) = m := by rw [← hm]; unfold pk; rw [if_pos hneg]
      have e2 : IntKind.i64.wrap (-(n + 1)) = -(n + 1) := IntWalk.i64_in _ (by omega)
      clear hm
      go_wp2_with fail
      go_meet
      exact ⟨rfl, by rw [← e1]⟩
    · have e1 : n = m := by rw [← hm]; unfold pk; rw [if_neg hneg]
      clear hm
      go_wp2_with fail
      go_meet
      exact ⟨rfl, by first | rfl | rw [e1]⟩
  case rest =>
  obtain ⟨rfl, rfl⟩ := hcut
  obtain ⟨gv, _, hix, hct⟩ := own_at HO.out HG.out
  obtain ⟨⟨g, o, c1, hit, hpcc, hfz, hP⟩, hfd⟩ := HE.out w1.drew HF.out.drew
  have c1' : w1.cell? ⟨r, 1, none⟩ = some (V 0) := c1
  have hpcc' : w1.cell? ⟨g, o + 3, none⟩ = some (.int .i64 pc) := hpcc
  have HP := Lib.hid hP
  have HFd := Lib.hid hfd
  have e3 : IntKind.i64.wrap (pc + 1) = pc + 1 := IntWalk.i64_in _ (by omega)
  clear hm hn hP hfd HE HO
  go_upto_region 7 with fail
  go_region_with (go_at_call 39; refine HFd.out.mono ?_; rintro e w' ⟨rfl, rfl⟩)
  all_goals (go_simp; go_wp2_with fail)
  all_goals go_ret2
  all_goals exact ⟨rfl, HP.out⟩

theorem zpick_some (r p : Nat) (V : Nat → Value) (Z : ZS) (P : ZT) (n t : Int) (k : Nat) (w : World) (h : RAt w r V Z) (h64 : Z.tasks.length ≤ 64) (hn : -9223372036854775808 ≤ n ∧ n ≤ 9223372036854775807)
    (hk : pk n % (Z.ready.length : Int) = k) (hget : Z.ready[k]? = some t) (hP : Z.Has t p P) (hpc : 0 ≤ P.picks ∧ P.picks ≤ 1000000) :
    Calls Try.prog 29 #[.pointer (some ⟨r, 0, none⟩), .int .i64 n] w fun e w' => e = .returned (.tuple #[.int .i64 t, .bool true]) ∧ Postr r V w { Z with tasks := Z.tasks.set p { P with picks := P.picks + 1 } } w' := by
  have hkl := (List.getElem?_eq_some_iff.1 hget).1
  have hle : Z.ready.length ≤ 64 := by rw [← rdyTo_all Z (Nat.le_refl _)]; have := rdyTo_len Z Z.tasks.length; omega
  refine zpick_run r p V P.picks _ n _ t Z.ready w (zready r V Z w h h64) rfl hn (by omega) hle k hk hget hpc fun w1 hf => ?_
  have hA := h.keep hf
  obtain ⟨g, o, hT⟩ := hA.task hP.get
  exact ⟨⟨g, o, hA.cells.2.1, hT.ix, hT.picks, hT.frozen 3 (by omega), ((hA.tset (T' := { P with picks := P.picks + 1 }) (x := .int .i64 (P.picks + 1)) hP.get hT (j := 3) (by omega) rfl).post).pre h hf⟩, zfind_yes r V Z t p P w1 hA hP⟩

end Go.Proofs.Ytnonidoeakhfdaa
