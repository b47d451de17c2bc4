/- Open. -/
import Derived.Test.YtnonidoeakhfdaaB6
namespace Go.Proofs.Ytnonidoeakhfdaa
open Go.RowKit Go.Maps Go.Sort
set_option linter.unusedVariables false

def SS.wake (S : SS) (x : Int) : SS :=
  match S.task x with
  | none => S
  | some T => S.setT x { T with kind := 0, num := 0 }
def SS.wakeAll (S : SS) (l : List Int) : SS := l.foldl SS.wake S
def SS.opened (S : SS) (n : Int) : SS := { S with opens := upd S.opens n true, used := S.used + 1 }
def SS.openC (S : SS) (n : Int) : Int × SS :=
  if n < 0 then (0, S) else ((((S.those (onLatch n)).length : Nat) : Int), (S.opened n).wakeAll (S.those (onLatch n)))

theorem wakeAll_snoc (S : SS) (l : List Int) (x : Int) : S.wakeAll (l ++ [x]) = (S.wakeAll l).wake x := by
  unfold SS.wakeAll; rw [List.foldl_append]; rfl
theorem wake_task (S : SS) (x y : Int) : ((S.wake x).task y).isSome = (S.task y).isSome := by
  unfold SS.wake
  cases hT : S.task x with
  | none => rfl
  | some T =>
    show (upd S.task x _ y).isSome = _
    unfold upd
    split
    · rename_i e; subst e; rw [hT]; rfl
    · rfl
theorem wakeAll_task (S : SS) (l : List Int) (y : Int) : ((S.wakeAll l).task y).isSome = (S.task y).isSome := by
  unfold SS.wakeAll
  induction l generalizing S with
  | nil => rfl
  | cons x l ih => rw [List.foldl_cons, ih, wake_task]

theorem open_nil (n : Int) (w : World) : Calls Try.prog 26 #[.pointer none, .int .i64 n] w fun e w' => e = .returned (.int .i64 0) ∧ Fr No w w' := by
  go_enter Try.func26, Try.ntmps26
  go_wp2
  go_ret
  exact ⟨rfl, (Fr.refl No w).alloc _⟩
set_option maxHeartbeats 400000 in
theorem open_neg (d : Nat) (n : Int) (w : World) (hn : n < 0) : Calls Try.prog 26 #[.pointer (some ⟨d, 0, none⟩), .int .i64 n] w fun e w' => e = .returned (.int .i64 0) ∧ Fr No w w' := by
  go_enter Try.func26, Try.ntmps26
  go_wp2
  go_ret
  exact ⟨rfl, (Fr.refl No w).alloc _⟩

/-- A latch is laid into the table. -/
theorem open_turn {w w4 : World} {d b : Nat} {R : Rp} {S : SS} (h : At w d R S) (hb : R.o.m = some b) {n : Int} {j : Nat} (ho : w4.ownsMap Try.prog 3 (unitElem (H := Unit)) b j (R.o.D.put (.int .i64 n) (.agg []))) (hf : Fr (One b) w w4) :
    ∃ R1, PR d R S w R1 (S.opened n) w4 := by
  have hm := h.o.map
  refine ⟨_, h.turnO (D' := R.o.D.put (.int .i64 n) (.agg [])) (op' := upd S.opens n true) (u' := S.used + 1) hb hf ⟨?_, fun m => ?_, ?_⟩⟩
  · show MapAt w4 Try.prog 3 _ R.o.m _
    rw [hb]; exact owns_tight ho
  · show Maps.has (R.o.D.put _ _) _ = upd S.opens n true m
    by_cases e : m = n
    · subst e; rw [upd_same]; exact has_true_of_atKey (atKey_put_same hm.isMap (isKeyI m) _)
    · rw [upd_other _ _ e, has_put_other (keyI_ne e)]; exact h.o.op m
  · show Maps.size (R.o.D.put _ _) ≤ S.used + 1
    rw [size_put (hm.tidy law3)]
    have := h.o.sz
    split <;> omega

/-- How far those that waited are awake. -/
structure OpenAt (d : Nat) (R : Rp) (S : SS) (w : World) (G : SS) (L : List Int) (g cap k : Nat) (wr : World) : Prop where
  ex : ∃ Rk, PR d R S w Rk (G.wakeAll (L.take k)) wr ∧ ¬ foot d Rk (G.wakeAll (L.take k)) g
  row : wr.ownsRow 0 3 1 (.slice (some ⟨g, 0, none⟩) L.length cap) L.length (L.map encZ)

theorem OpenAt.cell {d : Nat} {R : Rp} {S G : SS} {w wr : World} {L : List Int} {g cap k : Nat} (h : OpenAt d R S w G L g cap k wr) (hk : k < L.length) : wr.cell? ⟨g, k, none⟩ = some (.int .i64 L[k]) := by
  have := World.ownsRow.cells h.row (g := g) rfl k (encZ L[k]) (by rw [List.getElem?_map, List.getElem?_eq_getElem hk]; rfl)
  rwa [Addr.add_lit, Nat.zero_add] at this

/-- What a round of Open meets, and leaves. -/
structure WakeAt (d : Nat) (tm : Option Nat) (tb : Nat) (x : Int) (k n : Int) (P : World → Prop) (wr : World) : Prop where
  c0 : wr.cell? ⟨d, 0, none⟩ = some (.map tm)
  look : (Instr.lookup 52 (.map tm) (.int .i64 x) false).run Try.prog wr = .ok (.pointer (some ⟨tb, 0, none⟩)) wr
  t1 : wr.cell? ⟨tb, 1, none⟩ = some (.int .i64 k)
  t2 : wr.cell? ⟨tb, 2, none⟩ = some (.int .i64 n)
  f1 : wr.frozen? ⟨tb, 1, none⟩ = false
  f2 : wr.frozen? ⟨tb, 2, none⟩ = false
  fin : P ((wr.setCell ⟨tb, 1, none⟩ (.int .i64 0)).setCell ⟨tb, 2, none⟩ (.int .i64 0))

theorem OpenAt.step {d : Nat} {R : Rp} {S G : SS} {w wr : World} {L : List Int} {g cap k : Nat} (h : OpenAt d R S w G L g cap k wr) (hk : k < L.length) (hL : ∀ n ∈ L, (Lit.int .i64 n).wf = true ∧ (G.task n).isSome = true) :
    ∃ tm tb kd nm, WakeAt d tm tb L[k] kd nm (OpenAt d R S w G L g cap (k + 1)) wr := by
  obtain ⟨⟨Rk, hP, hg⟩, hrow⟩ := h
  obtain ⟨hxw, hxs⟩ := hL L[k] (List.getElem_mem hk)
  have hA := hP.at_
  rw [← wakeAll_task G (L.take k)] at hxs
  obtain ⟨T, hT⟩ := Option.isSome_iff_exists.1 hxs
  have ht := hA.tblk hT
  refine ⟨Rk.t.m, (Rk.t.c L[k]).1, T.kind, T.num, hA.c0, (hA.tlook hxw hT).1, ht.cell 1, ht.cell 2, ht.frozen 1, ht.frozen 2, ?_⟩
  have hf := fr_two wr (Rk.t.c L[k]).1 1 2 (.int .i64 0) (.int .i64 0)
  have hb : Blk _ (Rk.t.c L[k]).1 79 (TS.cells { T with kind := 0, num := 0 }) := (ht.set_ 1 (.int .i64 0)).set_ 2 (.int .i64 0)
  obtain ⟨R2, hP2⟩ := hA.setT hT hf hb
  have e0 : (G.wakeAll (L.take k)).wake L[k] = (G.wakeAll (L.take k)).setT L[k] { T with kind := 0, num := 0 } := by unfold SS.wake; rw [hT]
  have e1 : G.wakeAll (L.take (k + 1)) = (G.wakeAll (L.take k)).wake L[k] := by rw [take_snocI (List.getElem?_eq_getElem hk), wakeAll_snoc]
  have hgl : g < wr.heap.size := (World.ownsRow.lt hrow g rfl).2
  refine ⟨⟨R2, ?_, ?_⟩, ?_⟩
  · rw [e1, e0]; exact hP.trans hP2
  · rw [e1, e0]
    intro hf
    rcases hP2.foot g hf with hf | hf
    · exact hg hf
    · omega
  · exact own_of hrow fun k hk => hP2.fr.block k (World.ownsRow.lt hrow k hk).2 fun hf => by
      simp [Value.ownBlock] at hk; subst hk; exact hg hf

theorem those_mem {S : SS} (hW : WF S) {p : TS → Bool} {x : Int} (h : x ∈ S.those p) : ∃ T, S.task x = some T ∧ p T = true ∧ (Lit.int .i64 x).wf = true := by
  unfold SS.those at h
  rw [List.mem_filter] at h
  cases hT : S.task x with
  | none => rw [hT] at h; simp at h
  | some T => rw [hT] at h; exact ⟨T, rfl, by simpa using h.2, hW.keyWf hT⟩
theorem WF.opened {S : SS} (h : WF S) (hu : S.used < 1000000) (n : Int) : WF (S.opened n) where
  rt := h.rt
  sorted := h.sorted
  rl := h.rl
  n64 := h.n64
  keys := h.keys
  last := by have := h.last; show 0 ≤ S.last ∧ S.last ≤ ((S.used + 1 : Nat) : Int); omega
  used := hu
  lused := by have := h.lused; show S.locks.length ≤ S.used + 1; omega
  picks := fun m Q hQ => by have := h.picks m Q hQ; show 0 ≤ Q.picks ∧ Q.picks ≤ ((S.used + 1 : Nat) : Int); omega
  q := fun m H hH => by
    obtain ⟨a1, a2, a3⟩ := h.q m H hH
    exact ⟨a1, by show H.queue.length ≤ S.used + 1; omega, a3⟩
  lwf := h.lwf

set_option maxRecDepth 100000 in
set_option maxHeartbeats 2000000 in
theorem open_some (d b : Nat) (R : Rp) (S : SS) (n : Int) (w : World) (h : At w d R S) (hW : WF S) (hu : S.used < 1000000) (hn : 0 ≤ n) (hnw : (Lit.int .i64 n).wf = true) (hb : R.o.m = some b) :
    Calls Try.prog 26 #[.pointer (some ⟨d, 0, none⟩), .int .i64 n] w fun e w' => e = .returned (.int .i64 ((S.those (onLatch n)).length : Nat)) ∧ Post d R S w ((S.opened n).wakeAll (S.those (onLatch n))) w' := by
  have hn' : ¬ n < 0 := by omega
  have hdl := h.blk.lt
  have c3 : w.cell? ⟨d, 3, none⟩ = some (.map (some b)) := by rw [h.c3, ← hb]
  have q54 : ∀ (w : World) (r : Option Nat), (binOp .eql 54 (.map r) (.map none)).run Try.prog w = .ok (.bool r.isNone) w := fun w r => run_eql_map_nil w _ _ _ r Try.underlying54
  have hA0 := h.alloc (.cells #[.int .i64 n] 3)
  obtain ⟨w0, hw0⟩ : ∃ w0, w.alloc (.cells #[.int .i64 n] 3) = w0 := ⟨_, rfl⟩
  rw [hw0] at hA0
  have hm := hA0.o.map
  rw [hb] at hm
  have hm3 : w0.drew.ownsMap Try.prog 3 (unitElem (H := Unit)) b (Maps.size R.o.D) R.o.D := World.ownsMap.drew (show w0.ownsMap Try.prog 3 (unitElem (H := Unit)) b (Maps.size R.o.D) R.o.D from hm)
  have hsz : Maps.size R.o.D < maxLen := by have := h.o.sz; unfold maxLen; omega
  obtain ⟨w4, hr, ho, ht⟩ := hm3.store law3 Try.underlying54 hsz (key := .int .i64 n) (key3 n hnw) (unitElem_mk (H := Unit))
  have hf4 : Fr (One b) w0 w4 := ((Fr.refl (One b) w0).drew).trans (mapTurned_one ht) fun _ _ hj => hj
  obtain ⟨R1, hP1⟩ := open_turn hA0 hb (n := n) ho hf4
  have hl0 : w0.cell? ⟨w.heap.size, 0, none⟩ = some (.int .i64 n) := by rw [← hw0]; exact (Blk.new w 3 #[.int .i64 n]).cell 0
  have hlb : w.heap.size < w0.heap.size := by rw [← hw0]; simp
  have hbl : b < w.heap.size := h.o.map.lt b hb
  have hl4 : w4.cell? ⟨w.heap.size, 0, none⟩ = some (.int .i64 n) := by rw [World.cell?_of_block (hf4.block w.heap.size hlb (by unfold One; omega))]; exact hl0
  have hPs : PR d R S w R1 (S.opened n) w4 := by
    have h1 : PR d R S w R S w0 := PR.same h (by rw [← hw0]; exact (Fr.refl No w).alloc _)
    exact h1.trans hP1
  have hTh : Calls Try.prog 34 #[.pointer (some ⟨d, 0, none⟩), .func (.func 45) #[] #[.pointer (some ⟨w.heap.size, 0, none⟩)]] w4 (Told (S.those (onLatch n)) w4) := those45 d w.heap.size R1 (S.opened n) n w4 hP1.at_ (hW.opened hu n) hl4
  have HP := Lib.hid hPs
  have HL := Lib.hid (show ∀ x ∈ S.those (onLatch n), (Lit.int .i64 x).wf = true ∧ ((S.opened n).task x).isSome = true from fun x hx => by obtain ⟨T, hT, _, hwf⟩ := those_mem hW hx; exact ⟨hwf, by show (S.task x).isSome = true; rw [hT]; rfl⟩)
  have hlen : (S.those (onLatch n)).length ≤ 64 := Nat.le_trans (those_len S _) hW.n64
  have c30 : w0.cell? ⟨d, 3, none⟩ = some (.map (some b)) := by rw [hA0.c3, ← hb]
  clear h hW hu hn hnw hb hA0 hm hm3 hsz ho ht hf4 hP1 hl4 hPs hbl hlb
  have HTh := Lib.hid hTh
  clear hTh
  go_enter Try.func26, Try.ntmps26
  go_upto_region 5 with fail
  go_region
  clear hw0 c3 c30 hl0 hr
  go_wp2_with (go_at_call 34; refine HTh.out.mono ?_; rintro e w2 ⟨g, cap, rfl, ho, hf⟩; have HO := Lib.hid ho; have HF := Lib.hid hf; clear ho hf HTh)
  obtain ⟨L, hL⟩ : ∃ L, S.those (onLatch n) = L := ⟨_, rfl⟩
  have HE : Hid (OpenAt d R S w (S.opened n) L g cap 0 w2) := by
    refine Lib.hid ⟨⟨R1, ?_, ?_⟩, ?_⟩
    · exact HP.out.trans (PR.same HP.out.at_ HF.out)
    · intro hfoot
      have h1 := HP.out.at_.lt g hfoot
      have h2 := (World.ownsRow.lt HO.out g rfl).1
      omega
    · have := own_base HO.out (Nat.zero_le _)
      rwa [hL] at this
  rw [hL] at hlen HL ⊢
  have HLL := Lib.hid hL
  clear HO HF HP hL
  go_loopw [34] (fun i wr => ∃ k : Nat, k ≤ L.length ∧ i = .int .i64 k ∧ OpenAt d R S w (S.opened n) L g cap k wr) (fun i _ => L.length - (intOf i).toNat)
  case atStart => exact ⟨0, Nat.zero_le _, rfl, HE.out⟩
  case round =>
    obtain ⟨k, hk, rfl, hE⟩ := hrel
    have HE2 := Lib.hid hE
    clear hE HE
    by_cases hlt : k < L.length
    · have hc := HE2.out.cell hlt
      obtain ⟨tm, tb, kd, nm, a1, a2, a3, a4, a5, a6, a7⟩ := HE2.out.step hlt HL.out
      have HE3 := Lib.hid a7
      clear a7
      obtain ⟨x, hx⟩ : ∃ x, L[k] = x := ⟨_, rfl⟩
      rw [hx] at hc a2
      clear hx
      go_wp2
      go_roundw
      case rel => exact ⟨k + 1, by omega, by go_num, HE3.out⟩
      case measure => simp [intOf]; omega
    · have hkl : k = L.length := by omega
      go_wp2
      go_ret
      obtain ⟨Rk, hP, _⟩ := HE2.out.ex
      rw [hkl, List.take_length] at hP
      rw [HLL.out]
      exact ⟨rfl, hP.post⟩

set_option maxRecDepth 100000 in
set_option maxHeartbeats 2000000 in
theorem open_first (d : Nat) (R : Rp) (S : SS) (n : Int) (w : World) (h : At w d R S) (hW : WF S) (hu : S.used < 1000000) (hn : 0 ≤ n) (hnw : (Lit.int .i64 n).wf = true) (hb : R.o.m = none) :
    Calls Try.prog 26 #[.pointer (some ⟨d, 0, none⟩), .int .i64 n] w fun e w' => e = .returned (.int .i64 ((S.those (onLatch n)).length : Nat)) ∧ Post d R S w ((S.opened n).wakeAll (S.those (onLatch n))) w' := by
  have hn' : ¬ n < 0 := by omega
  have hdl := h.blk.lt
  have c3 : w.cell? ⟨d, 3, none⟩ = some (.map none) := by rw [h.c3, ← hb]
  have f3 := h.blk.frozen 3
  have hmk := @run_makeMap Try.prog
  have q54 : ∀ (w : World) (r : Option Nat), (binOp .eql 54 (.map r) (.map none)).run Try.prog w = .ok (.bool r.isNone) w := fun w r => run_eql_map_nil w _ _ _ r Try.underlying54
  have hA0 := h.alloc (.cells #[.int .i64 n] 3)
  obtain ⟨w0, hw0⟩ : ∃ w0, w.alloc (.cells #[.int .i64 n] 3) = w0 := ⟨_, rfl⟩
  rw [hw0] at hA0
  have hQ := hA0.madeO hb
  have c30 : w0.cell? ⟨d, 3, none⟩ = some (.map none) := by rw [hA0.c3, ← hb]
  have f30 : w0.frozen? ⟨d, 3, none⟩ = false := hA0.blk.frozen 3
  have hdl0 : d < w0.heap.size := hA0.blk.lt
  have hl0 : w0.cell? ⟨w.heap.size, 0, none⟩ = some (.int .i64 n) := by rw [← hw0]; exact (Blk.new w 3 #[.int .i64 n]).cell 0
  have hlb : w.heap.size < w0.heap.size := by rw [← hw0]; simp
  have hbo := hlb
  obtain ⟨b, hbe⟩ : ∃ b, w0.heap.size = b := ⟨_, rfl⟩
  rw [hbe] at hQ hbo
  have hdl1 : d < b := by omega
  obtain ⟨w1, hw1⟩ : ∃ w1, (w0.alloc (.map #[] 0)).setCell ⟨d, 3, none⟩ (.map (some b)) = w1 := ⟨_, rfl⟩
  have hw1' : mkMap w0 d 3 = w1 := by unfold mkMap; rw [hbe]; exact hw1
  rw [hw1'] at hQ
  have d3 : w1.cell? ⟨d, 3, none⟩ = some (.map (some b)) := hQ.at_.c3
  have hl1 : w1.cell? ⟨w.heap.size, 0, none⟩ = some (.int .i64 n) := by
    rw [← hw1']
    rw [World.cell?_of_block ((mkMap_fr w0 d 3).block w.heap.size hlb (by unfold One; omega))]; exact hl0
  have hm3 : w1.drew.ownsMap Try.prog 3 (unitElem (H := Unit)) b (Maps.size R.o.D) R.o.D := World.ownsMap.drew (show w1.ownsMap Try.prog 3 (unitElem (H := Unit)) b (Maps.size R.o.D) R.o.D from hQ.at_.o.map)
  have hsz : Maps.size R.o.D < maxLen := by have := h.o.sz; unfold maxLen; omega
  obtain ⟨w4, hr, ho, ht⟩ := hm3.store law3 Try.underlying54 hsz (key := .int .i64 n) (key3 n hnw) (unitElem_mk (H := Unit))
  have hf4 : Fr (One b) w1 w4 := ((Fr.refl (One b) w1).drew).trans (mapTurned_one ht) fun _ _ hj => hj
  obtain ⟨R1, hP1⟩ := open_turn hQ.at_ (b := b) rfl (n := n) ho hf4
  have hl4 : w4.cell? ⟨w.heap.size, 0, none⟩ = some (.int .i64 n) := by
    rw [World.cell?_of_block (hf4.block w.heap.size (by rw [← hw1']; exact Nat.lt_of_lt_of_le hlb (mkMap_fr w0 d 3).size) (by unfold One; omega))]; exact hl1
  have hPs : PR d R S w R1 (S.opened n) w4 := by
    have h1 : PR d R S w R S w0 := PR.same h (by rw [← hw0]; exact (Fr.refl No w).alloc _)
    exact (h1.trans hQ).trans hP1
  have hTh : Calls Try.prog 34 #[.pointer (some ⟨d, 0, none⟩), .func (.func 45) #[] #[.pointer (some ⟨w.heap.size, 0, none⟩)]] w4 (Told (S.those (onLatch n)) w4) := those45 d w.heap.size R1 (S.opened n) n w4 hP1.at_ (hW.opened hu n) hl4
  have HP := Lib.hid hPs
  have HL := Lib.hid (show ∀ x ∈ S.those (onLatch n), (Lit.int .i64 x).wf = true ∧ ((S.opened n).task x).isSome = true from fun x hx => by obtain ⟨T, hT, _, hwf⟩ := those_mem hW hx; exact ⟨hwf, by show (S.task x).isSome = true; rw [hT]; rfl⟩)
  have hlen : (S.those (onLatch n)).length ≤ 64 := Nat.le_trans (those_len S _) hW.n64
  clear h hW hu hn hnw hb hA0 hm3 hsz ho ht hf4 hP1 hl4 hPs hlb hQ hw1' hbo
  have HTh := Lib.hid hTh
  clear hTh
  go_enter Try.func26, Try.ntmps26
  go_upto_region 5 with fail
  go_region
  clear hw0 hw1 c3 f3 c30 f30 hl0 hl1 d3 hr hmk
  go_wp2_with (go_at_call 34; refine HTh.out.mono ?_; rintro e w2 ⟨g, cap, rfl, ho, hf⟩; have HO := Lib.hid ho; have HF := Lib.hid hf; clear ho hf HTh)
  obtain ⟨L, hL⟩ : ∃ L, S.those (onLatch n) = L := ⟨_, rfl⟩
  have HE : Hid (OpenAt d R S w (S.opened n) L g cap 0 w2) := by
    refine Lib.hid ⟨⟨R1, ?_, ?_⟩, ?_⟩
    · exact HP.out.trans (PR.same HP.out.at_ HF.out)
    · intro hfoot
      have h1 := HP.out.at_.lt g hfoot
      have h2 := (World.ownsRow.lt HO.out g rfl).1
      omega
    · have := own_base HO.out (Nat.zero_le _)
      rwa [hL] at this
  rw [hL] at hlen HL ⊢
  have HLL := Lib.hid hL
  clear HO HF HP hL
  go_loopw [34] (fun i wr => ∃ k : Nat, k ≤ L.length ∧ i = .int .i64 k ∧ OpenAt d R S w (S.opened n) L g cap k wr) (fun i _ => L.length - (intOf i).toNat)
  case atStart => exact ⟨0, Nat.zero_le _, rfl, HE.out⟩
  case round =>
    obtain ⟨k, hk, rfl, hE⟩ := hrel
    have HE2 := Lib.hid hE
    clear hE HE
    by_cases hlt : k < L.length
    · have hc := HE2.out.cell hlt
      obtain ⟨tm, tb, kd, nm, a1, a2, a3, a4, a5, a6, a7⟩ := HE2.out.step hlt HL.out
      have HE3 := Lib.hid a7
      clear a7
      obtain ⟨x, hx⟩ : ∃ x, L[k] = x := ⟨_, rfl⟩
      rw [hx] at hc a2
      clear hx
      go_wp2
      go_roundw
      case rel => exact ⟨k + 1, by omega, by go_num, HE3.out⟩
      case measure => simp [intOf]; omega
    · have hkl : k = L.length := by omega
      go_wp2
      go_ret
      obtain ⟨Rk, hP, _⟩ := HE2.out.ex
      rw [hkl, List.take_length] at hP
      rw [HLL.out]
      exact ⟨rfl, hP.post⟩


theorem open_call (d : Nat) (R : Rp) (S : SS) (n : Int) (w : World) (h : At w d R S) (hW : WF S) (hu : S.used < 1000000) (hnw : (Lit.int .i64 n).wf = true) :
    Calls Try.prog 26 #[.pointer (some ⟨d, 0, none⟩), .int .i64 n] w fun e w' => e = .returned (.int .i64 (S.openC n).1) ∧ Post d R S w (S.openC n).2 w' := by
  by_cases hn : n < 0
  · have e : S.openC n = (0, S) := by unfold SS.openC; rw [if_pos hn]
    rw [e]
    exact (open_neg d n w hn).mono fun e w' ⟨h1, h2⟩ => ⟨h1, Post.same h h2⟩
  · have e : S.openC n = ((((S.those (onLatch n)).length : Nat) : Int), (S.opened n).wakeAll (S.those (onLatch n))) := by unfold SS.openC; rw [if_neg hn]
    rw [e]
    cases hb : R.o.m with
    | none => exact open_first d R S n w h hW hu (by omega) hnw hb
    | some b => exact open_some d b R S n w h hW hu (by omega) hnw hb

theorem WF.wake {S : SS} (h : WF S) {x : Int} (hx : ∀ T, S.task x = some T → T.kind ≠ 1) : WF (S.wake x) := by
  unfold SS.wake
  cases hT : S.task x with
  | none => exact h
  | some T => exact h.turn (u := S.used) hT (hx T hT) (Nat.le_refl _) h.used (h.picks x T hT)
theorem wake_other (S : SS) {x y : Int} (hne : y ≠ x) : (S.wake x).task y = S.task y := by
  unfold SS.wake
  cases hT : S.task x with
  | none => rfl
  | some T => exact upd_other _ _ hne
theorem wake_kind (S : SS) (x y : Int) (h : ∀ T, S.task y = some T → T.kind ≠ 1) : ∀ T, (S.wake x).task y = some T → T.kind ≠ 1 := by
  by_cases e : y = x
  · subst e
    unfold SS.wake
    cases hT : S.task y with
    | none => intro T hT2; simp only at hT2; rw [hT] at hT2; cases hT2
    | some T =>
      intro T2 hT2
      have hT3 : upd S.task y (some { T with kind := 0, num := 0 }) y = some T2 := hT2
      rw [upd_same] at hT3; cases hT3; show (0 : Int) ≠ 1; decide
  · rw [wake_other S e]; exact h
theorem WF.wakeAll {S : SS} (h : WF S) (l : List Int) (hl : ∀ x ∈ l, ∀ T, S.task x = some T → T.kind ≠ 1) : WF (S.wakeAll l) := by
  unfold SS.wakeAll
  induction l generalizing S with
  | nil => exact h
  | cons x l ih =>
    rw [List.foldl_cons]
    exact ih (h.wake (hl x (by simp))) fun y hy => wake_kind S x y (hl y (by simp; exact .inr hy))
theorem WF.openC {S : SS} (h : WF S) (hu : S.used < 1000000) (n : Int) : WF (S.openC n).2 := by
  unfold SS.openC
  split
  · exact h
  · refine (h.opened hu n).wakeAll _ fun x hx T hT => ?_
    obtain ⟨T', hT', hp, _⟩ := those_mem h hx
    have hT2 : S.task x = some T := hT
    rw [hT'] at hT2; cases hT2
    unfold onLatch at hp
    simp at hp
    omega

/-! ### New -/
def SS.zero : SS := ⟨0, [], fun _ => none, [], fun _ => none, fun _ => false, 0⟩
def Rp.zero : Rp := ⟨⟨none, .map [], fun _ => (0, .slice none 0 0)⟩, ⟨none, .map [], fun _ => (0, .slice none 0 0)⟩, ⟨none, .map []⟩⟩
theorem zero_tf {α : Type} {R : RT} {k : Nat} (hm : R.m = none) : ¬ tf R (fun _ => (none : Option α)) k := by
  rintro (h | ⟨n, x, h, _⟩)
  · rw [hm] at h; cases h
  · cases h
theorem zero_at {w : World} {d : Nat} (h : Blk w d 56 #[.map none, .int .i64 0, .map none, .map none]) : At w d Rp.zero SS.zero where
  blk := h
  t := ⟨rfl, fun n => rfl, (fun n m x y _ hx => by cases hx), rfl⟩
  l := ⟨rfl, fun n => rfl, (fun n m x y _ hx => by cases hx), rfl⟩
  o := ⟨rfl, fun n => rfl, Nat.le_refl _⟩
  apt := fun k hk => absurd hk (zero_tf rfl)
  apl := fun k hk => absurd hk (zero_tf rfl)
  apo := by simp [Rp.zero]
theorem zero_wf : WF SS.zero where
  rt := ⟨List.nodup_nil, fun n => by simp [SS.zero]⟩
  sorted := List.Pairwise.nil
  rl := ⟨List.nodup_nil, fun n => by simp [SS.zero]⟩
  n64 := by decide
  keys := fun n hn => by cases hn
  last := by decide
  used := by decide
  lused := by decide
  picks := fun n T h => by cases h
  q := fun n H h => by cases h
  lwf := fun n hn => by cases hn
theorem zero_foot {d k : Nat} (h : foot d Rp.zero SS.zero k) : k = d := by
  rcases h with h | h | h | h
  · exact h
  · exact absurd h (zero_tf rfl)
  · exact absurd h (zero_tf rfl)
  · cases h
set_option maxHeartbeats 400000 in
theorem new_any (w : World) : Calls Try.prog 10 #[] w fun e w' => e = .returned (.pointer (some ⟨w.heap.size, 0, none⟩)) ∧ w' = w.alloc (.cells #[.map none, .int .i64 0, .map none, .map none] 56) := by
  go_enter Try.func10, Try.ntmps10
  go_wp2
  go_ret
  exact ⟨rfl, rfl⟩

end Go.Proofs.Ytnonidoeakhfdaa
