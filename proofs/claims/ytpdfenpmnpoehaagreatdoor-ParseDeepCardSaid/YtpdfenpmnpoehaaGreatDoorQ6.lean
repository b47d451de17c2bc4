/- Reading a query: a state that goes on from call to call; numbers. -/
import Derived.Test.YtpdfenpmnpoehaaGreatDoorQ5
import Derived.Test.YtpdfenpmnpoehaaGreatDoorXS2
import Derived.Lib.AtoiErrMem
namespace Go.Proofs.YtpdfenpmnpoehaaGreatDoor
open Go.RowKit Go.Maps
set_option linter.unusedVariables false

section
variable {ops : Array Oper} {rest : List Oper} {o : Oper} {a : Act} {Q : Exit → Act → World → Prop} {w : World}
/-- append, by what it comes to. -/
theorem wpList_add (hgd : o.guard = none) (sl x : Operand) (t1 t2 : TypeId) (ho : o.op = .call { callee := .builtin .append, args := #[sl, x], argTypes := #[t1, t2] })
    (v v' xv : Value) (w1 : World) (hs : a.eval sl = v) (hx : a.eval x = xv) (hr : (Builtin.append_ #[t1, t2] o.type #[v, xv]).run Tryz.prog w = .ok v' w1)
    (h : wpList Tryz.prog ops Q rest (a.put o.dst v') w1) : wpList Tryz.prog ops Q (o :: rest) a w := by
  refine wpList_plain hgd fun K hK => ?_
  unfold Oper.wp execOp
  simp only [ho, resolve, invoke, builtin, Sem.run_bind, Sem.run_pure, Result.andThen_ok, List.map_toArray, List.map_cons, List.map_nil, hs, hx, hr]
  exact hK _ _ h
end
/-- A row of one's own has turned, none of the reader's blocks. -/
theorem Rd.own {C : Cx} {w w' : World} {r : List Wd} {m : Bool} {v : Value} {B : Nat} (h : Rd C w r m) (hf : Fr (fun k => v.ownBlock = some k) w w') (hB : ∀ k, v.ownBlock = some k → B ≤ k) (hd : C.d < B) (hg : C.g < B) : Rd C w' r m :=
  { h with pv := h.pv.keep hf (fun k hk => by have h1 := h.d11; have := hB k hk; omega), blk := h.blk.of (hf.block _ h.blk.lt (fun e => by have := hB _ e; omega)), glt := Nat.lt_of_lt_of_le h.glt hf.size, cells := cells_keep (hf.block _ h.glt (fun e => by have := hB _ e; omega)) h.cells }
theorem Fr.own {F : Nat → Prop} {a w w' : World} {v : Value} (h : Fr F a w) (hf : Fr (fun k => v.ownBlock = some k) w w') (hB : ∀ k, v.ownBlock = some k → a.heap.size ≤ k) : Fr F a w' :=
  ⟨hf.os.trans h.os, hf.tape.trans h.tape, hf.output.trans h.output, Nat.le_trans h.size hf.size, fun k hk hn => (hf.block k (Nat.lt_of_lt_of_le hk h.size) (fun e => by have := hB k e; omega)).trans (h.block k hk hn)⟩
def Stable (C : Cx) (J : World → Prop) : Prop := ∀ w w', Fr (Only C.d) w w' → J w → J w'
/-- A reading under way: it began at w; J is what else is kept. -/
structure St (C : Cx) (w : World) (J : World → Prop) (wi : World) (r : List Wd) (b : Bool) : Prop where
  rd : Rd C wi r b
  fr : Fr (Only C.d) w wi
  en : Ended r
  j : J wi
  sj : Stable C J
theorem St.no {C : Cx} {w wi wj : World} {J : World → Prop} {r : List Wd} {b : Bool} (h : St C w J wi r b) (f : Fr No wi wj) : St C w J wj r b :=
  ⟨h.rd.keep f, h.fr.trans f.any fun _ _ h => h, h.en, h.sj _ _ f.any h.j, h.sj⟩
def Tr : World → Prop := fun _ => True
theorem stable_tr (C : Cx) : Stable C Tr := fun _ _ _ _ => trivial
theorem St.start {C : Cx} {w : World} {r : List Wd} {b : Bool} (h : Rd C w r b) (he : Ended r) : St C w Tr w r b := ⟨h, Fr.refl _ _, he, trivial, stable_tr C⟩
/-- One thing more is kept. -/
theorem St.more {C : Cx} {w wi : World} {J J' : World → Prop} {r : List Wd} {b : Bool} (h : St C w J wi r b) (hj : J' wi) (hs : Stable C J') : St C w (fun x => J x ∧ J' x) wi r b :=
  ⟨h.rd, h.fr, h.en, ⟨h.j, hj⟩, fun a c f hh => ⟨h.sj a c f hh.1, hs a c f hh.2⟩⟩
theorem stable_blk {C : Cx} {y : Nat} {t : TypeId} {cs : Array Value} (hy : y ≠ C.d) : Stable C (fun w => Blk w y t cs) := fun w w' f h => h.of (f.block y h.lt hy)
/-- What a call comes to within it. -/
def SP {α : Type} (C : Cx) (w : World) (J : World → Prop) (wi : World) (R : VR α) (x : PR α) (e : Ending) (w' : World) : Prop :=
  match x with
  | .ok a r m => (∃ v, e = .returned v ∧ R (fun k => wi.heap.size ≤ k) w' v a) ∧ St C w J w' r m ∧ Fr (Only C.d) wi w'
  | .bad c p => e = .panicked [{ v := flt c p, recovered := false }] ∧ Fr (Only C.d) w w'
theorem St.call {α : Type} {C : Cx} {w wi : World} {J : World → Prop} {r : List Wd} {b : Bool} {f : FuncId} {args : Array Value} {R : VR α} {p : Pa α} (h : St C w J wi r b) (hc : Calls Tryz.prog f args wi (RdP C wi R (p r b))) (hk : Keeps p) : Calls Tryz.prog f args wi (SP C w J wi R (p r b)) := by
  refine hc.mono ?_
  rintro e w' ⟨f, hp⟩
  unfold SP
  cases hx : p r b with
  | bad c q => rw [hx] at hp; exact ⟨hp, h.fr.trans f fun _ _ h => h⟩
  | ok a r' m =>
    rw [hx] at hp
    exact ⟨hp.1, ⟨hp.2, h.fr.trans f fun _ _ h => h, (hk _ _ _ _ _ h.en hx).1, h.sj _ _ f h.j, h.sj⟩, f⟩
theorem St.bad {α : Type} {C : Cx} {w w' : World} {R : VR α} {x : PR α} {c p : Nat} (hx : x = .bad c p) (f : Fr (Only C.d) w w') : RdP C w R x (.panicked [{ v := flt c p, recovered := false }]) w' := by
  subst hx; exact ⟨f, rfl⟩
theorem St.ok {α : Type} {C : Cx} {w wi : World} {J : World → Prop} {r : List Wd} {b : Bool} {R : VR α} {x : PR α} {a : α} {v : Value} (h : St C w J wi r b) (hx : x = .ok a r b) (hv : R (fun k => w.heap.size ≤ k) wi v a) : RdP C w R x (.returned v) wi := by
  subst hx; exact ⟨h.fr, ⟨v, rfl, hv⟩, h.rd⟩
/-- The same behind stores into the result's own block. -/
theorem St.okc {α : Type} {C : Cx} {w wi wj : World} {J : World → Prop} {r : List Wd} {b : Bool} {R : VR α} {x : PR α} {a : α} {v : Value} {y : Nat} (h : St C w J wi r b) (f : Fr (fun k => k = y) wi wj) (hy : w.heap.size ≤ y) (hd : C.d < w.heap.size) (hg : C.g < w.heap.size) (hx : x = .ok a r b) (hv : R (fun k => w.heap.size ≤ k) wj v a) : RdP C w R x (.returned v) wj := by
  subst hx
  refine ⟨?_, ⟨v, rfl, hv⟩, h.rd.past f (by omega) (by omega)⟩
  refine ⟨f.os.trans h.fr.os, f.tape.trans h.fr.tape, f.output.trans h.fr.output, Nat.le_trans h.fr.size f.size, fun k hk hn => ?_⟩
  exact (f.block k (Nat.lt_of_lt_of_le hk h.fr.size) (fun e => by have e : k = y := e; omega)).trans (h.fr.block k hk hn)
theorem sees_s {C : Cx} {w wi : World} {J : World → Prop} {r : List Wd} {b : Bool} {mv : Value} {m : Wd → Bool} (h : St C w J wi r b) (hm : Mt wi mv m) : Calls Tryz.prog 113 #[rp C, mv] wi fun e w' => e = .returned (.bool (seesW m r)) ∧ St C w J w' r b ∧ Fr No wi w' := by
  obtain ⟨x, l, rfl⟩ := h.en.cons
  refine (sees_any h.rd hm).mono ?_
  rintro e w' ⟨rfl, f⟩
  exact ⟨rfl, h.no f, f⟩
theorem takes_s {C : Cx} {w wi : World} {J : World → Prop} {r : List Wd} {b : Bool} {mv : Value} {m : Wd → Bool} (h : St C w J wi r b) (hm : Mt wi mv m) (hi : Inner m) : Calls Tryz.prog 62 #[rp C, mv] wi fun e w' => e = .returned (.bool (seesW m r)) ∧ (seesW m r = true → St C w J w' r.tail b) ∧ (seesW m r = false → St C w J w' r b) ∧ Fr (Only C.d) wi w' := by
  have he := h.en
  obtain ⟨x, l, rfl⟩ := he.cons
  refine (takes_any h.rd hm).mono ?_
  rintro e w' ⟨rfl, hr, f⟩
  refine ⟨rfl, fun hs => ?_, fun hs => ?_, f⟩
  · have hs : m x = true := hs
    rw [hs, if_pos rfl] at hr
    exact ⟨hr, h.fr.trans f fun _ _ h => h, (he.sees hi hs).1, h.sj _ _ f h.j, h.sj⟩
  · have hs : m x = false := hs
    rw [hs, if_neg (by decide)] at hr
    exact ⟨hr, h.fr.trans f fun _ _ h => h, he, h.sj _ _ f h.j, h.sj⟩
theorem need_s {C : Cx} {w wi : World} {J : World → Prop} {r : List Wd} {b : Bool} {mv : Value} {m : Wd → Bool} (h : St C w J wi r b) (hm : Mt wi mv m) (hi : Inner m) : Calls Tryz.prog 67 #[rp C, mv] wi (SP C w J wi wdR (needW m r b)) := by
  refine h.call ?_ (keeps_need hi)
  have he := h.en
  obtain ⟨x, l, rfl⟩ := he.cons
  exact need_any h.rd hm
theorem name_s {C : Cx} {w wi : World} {J : World → Prop} {r : List Wd} {b : Bool} (h : St C w J wi r b) : Calls Tryz.prog 61 #[rp C] wi (SP C w J wi strR (nameW r b)) := h.call (name_any h.rd h.en) keeps_name
/-- Words that must stand there, out of a row that was laid just now. -/
theorem all_s {C : Cx} {w wi : World} {J : World → Prop} {r : List Wd} {b : Bool} (h : St C w J wi r b) (ts : List Tx) (n : Nat) (hn : ts.length = n) (h1 : n ≤ 100) (cs : Array Value) (hcs : cs = (ts.map sv).toArray) :
    Calls Tryz.prog 58 #[rp C, .slice (some ⟨wi.heap.size, 0, none⟩) n n] (wi.alloc (.cells cs 9)) (SP C w J (wi.alloc (.cells cs 9)) unitR (allW ts r b)) := by
  subst hn
  have fa : Fr No wi (wi.alloc (.cells cs 9)) := (Fr.refl No wi).alloc _
  have hb : Blk (wi.alloc (.cells cs 9)) wi.heap.size 9 cs := Blk.new wi 9 _
  have h2 := h.no fa
  refine h2.call (all_any h2.rd ⟨wi.heap.size, ts.length, rfl, h1, fun k hk => ?_⟩ (fun g n c e => ?_) h2.en) (keeps_all ts)
  · rw [hb.cell k, hcs]
    simp [hk]
  · cases e
    have := h.rd.lt
    omega

/-! ### numbers -/
theorem pint_any (l : Tx) (w : World) (hp : Pv w) (hl : l.length ≤ 100000) : Calls Tryz.prog 190 #[sv l, .int .i64 10, .int .i64 64] w fun e w' =>
    (∀ n, numW l = some n → e = .returned (.tuple #[.int .i64 n, .nilIface])) ∧ (numW l = none → ∃ z a b, e = .returned (.tuple #[.int .i64 z, .iface a b])) ∧ Fr No w w' := by
  have hs : (⟨l.toArray⟩ : ByteArray).size ≤ 100000 := by rw [sz]; exact hl
  have hd : (⟨l.toArray⟩ : ByteArray).data.toList = l := by simp
  obtain ⟨es1, es2, hes⟩ := hp.es
  obtain ⟨er1, er2, her⟩ := hp.er
  unfold numW
  cases h : Lib.parseIntB 64 l with
  | ok n =>
    refine (Tryz.strconv_ParseInt_10_at64_ok ⟨l.toArray⟩ (by omega) n (by rw [hd]; exact h) w).mono ?_
    rintro e w' ⟨rfl, hw⟩
    refine ⟨fun m hm => by cases hm; rfl, (fun hm => by cases hm), ?_⟩
    rcases hw with rfl | ⟨t, rfl⟩
    · exact Fr.refl _ _
    · exact Fr.of_below (Lib.bytesWorld_below w 5 t)
  | range =>
    refine (Tryz.strconv_ParseInt_10_at64_range ⟨l.toArray⟩ (by omega) (by rw [hd]; exact h) _ w her (.inr ⟨_, _, rfl⟩)).mono ?_
    rintro e w' ⟨N, rfl, _, _, hb⟩
    exact ⟨(fun m hm => by cases hm), fun _ => ⟨_, _, _, rfl⟩, Fr.of_below hb⟩
  | _ =>
    refine (Tryz.strconv_ParseInt_10_at64_syntax ⟨l.toArray⟩ (by omega) (by rw [hd]; exact h) _ w hes (.inr ⟨_, _, rfl⟩)).mono ?_
    rintro e w' ⟨N, rfl, _, _, hb⟩
    exact ⟨(fun m hm => by cases hm), fun _ => ⟨_, _, _, rfl⟩, Fr.of_below hb⟩
def vlR : VR Vl := fun _ _ v x => v = .agg #[.bool x.isText, sv x.text, .int .i64 x.int] ∧ x.text.length ≤ 8192 ∧ i64 x.int
theorem numW_bd {l : Tx} {n : Int} (h : numW l = some n) : i64 n := by
  unfold numW at h
  split at h
  · rename_i v hv
    cases h
    rw [Lib.parseIntB_64] at hv
    exact Lib.atoiAll_bounds hv
  · cases h
end Go.Proofs.YtpdfenpmnpoehaaGreatDoor
