/- Opening a log: a record taken up, what may follow, a segment's bytes read. -/
import Derived.Test.YtpeafckomahjgaaGreatDoorW6
namespace Go.Proofs.YtpeafckomahjgaaGreatDoor
open Go.RowKit Go.Maps
set_option linter.unusedVariables false

section
variable {α : Type}
/-- One more, laid ahead in a block of its own. -/
theorem Grow.more2 {b e size bytes : Nat} {E : (Nat → Prop) → World → α → List Value → Prop} (hE : Elem E) {w0 w : World} {v : Value} {l : List α} (h : Grow b e size E w v l) (hb : b ≤ w0.heap.size) (hw0 : w0.heap.size ≤ w.heap.size) (hv0 : ∀ k, v.ownBlock = some k → k < w0.heap.size)
    (t : TypeId) (ht : Tryz.prog.underlying t = some (.slice e)) (z : Value) (hinfo : (Tryz.prog.info? e).map (fun i => (i.zero, i.size, i.bytes)) = some (some z, size, bytes)) (hzs : z.cells.size = size) (hsz : 0 < size)
    (x : α) (cs : List Value) (hcs : cs.length = size) (hone : ∀ u ∈ cs, u.oneCell' = true) (hx : E (fun k => w0.heap.size ≤ k) w x cs) (hlen : (l.length + 1) * bytes ≤ 140737488355328) (hmax : l.length + 1 ≤ maxLen) :
    ∃ A c w', (∀ ty, (Builtin.append_ #[t, t] ty #[v, .slice (some ⟨w.heap.size, 0, none⟩) 1 1]).run Tryz.prog (w.alloc (.cells cs.toArray e)) = .ok (.slice A (l.length + 1) c) w') ∧ Grow b e size E w' (.slice A (l.length + 1) c) (l ++ [x]) ∧
      Fr (fun k => v.ownBlock = some k) w w' ∧ (∀ k, (Value.slice A (l.length + 1) c).ownBlock = some k → k < w'.heap.size) ∧ (∀ k, (Value.slice A (l.length + 1) c).ownBlock = some k → v.ownBlock = some k ∨ w.heap.size ≤ k) := by
  obtain ⟨K, xs, ho, hel, hK⟩ := h
  obtain ⟨i0, hi, hz0, hz1, hz2⟩ := info_parts hinfo
  have hfa : Fr No w (w.alloc (.cells cs.toArray e)) := (Fr.refl No w).alloc _
  have ho' : (w.alloc (.cells cs.toArray e)).ownsRow b e size v l.length xs := own_of ho fun k hk => hfa.block k (ho.lt k hk).2 id
  have hnews : ∀ j u, cs[j]? = some u → (w.alloc (.cells cs.toArray e)).cell? ((⟨w.heap.size, 0, none⟩ : Addr).add j) = some u := by
    intro j u hu
    rw [Addr.add_lit, Nat.zero_add]
    exact ((Blk.new w e cs.toArray).cell j).trans (by simpa using hu)
  obtain ⟨v', w', hr, how, hgr, hnil, hat⟩ := run_append_own_at (P := Tryz.prog) (w.alloc (.cells cs.toArray e)) b t 0 e i0 z size bytes ht hi hz0 hz1 hz2 hzs hsz v l.length xs ho' ⟨w.heap.size, 0, none⟩ 1 1 cs (by omega) hnews hone hmax hlen (by simp; omega)
  have hv' : ∃ A c, v' = .slice A (l.length + 1) c := by
    rcases how.2 with ⟨e1, h0⟩ | ⟨g, cap, cur, e1, _⟩
    · omega
    · exact ⟨_, _, e1⟩
  obtain ⟨A, c, rfl⟩ := hv'
  have hsize : w.heap.size < (w.alloc (.cells cs.toArray e)).heap.size := by simp
  have hfr : Fr (fun k => v.ownBlock = some k) w w' := hfa.any.grown hgr fun k hk _ => hk
  have hw' : w.heap.size < w'.heap.size := Nat.lt_of_lt_of_le hsize hgr.size
  refine ⟨A, c, w', fun ty => hr, ⟨fun k => K k ∨ (w0.heap.size ≤ k ∧ k < w.heap.size), xs ++ cs, by simpa using how, fun j hj => ?_, fun k hk => ?_⟩, hfr, fun k hk => ?_, fun k hk => ?_⟩
  · rw [List.length_append, List.length_singleton] at hj
    by_cases hjl : j < l.length
    · obtain ⟨cs', h1, h2, h3⟩ := hel j hjl
      refine ⟨cs', h1, fun i hi' => ?_, ?_⟩
      · have hlt : j * size + i < xs.length := by
          rw [ho.1]
          have := Nat.mul_le_mul_right size (show j + 1 ≤ l.length by omega)
          rw [Nat.add_mul, Nat.one_mul] at this
          omega
        rw [List.getElem?_append_left hlt]; exact h2 i hi'
      · rw [List.getElem_append_left hjl]
        exact hE.mono _ _ _ _ _ _ h3 fun k hk hlt => ⟨.inl hk, hfr.block k hlt (hK k hk).2.2⟩
    · obtain rfl : j = l.length := by omega
      refine ⟨cs, hcs, fun i hi' => ?_, ?_⟩
      · rw [List.getElem?_append_right (by rw [ho.1]; omega), ho.1, Nat.add_sub_cancel_left]
      · rw [List.getElem_append_right (by omega)]
        simp only [Nat.sub_self, List.getElem_cons_zero]
        exact hE.mono _ _ _ _ _ _ hx fun k hk hlt => ⟨.inr ⟨hk, hlt⟩, hfr.block k hlt fun e => by have := hv0 k e; omega⟩
  · have hatk : ∀ j, (Value.slice A (l.length + 1) c).ownBlock = some j → v.ownBlock = some j ∨ j = (w.alloc (.cells cs.toArray e)).heap.size := fun j hj => by
      rcases hat with e1 | e1
      · exact .inl (e1 ▸ hj)
      · rw [hj] at e1; exact .inr (Option.some.inj e1)
    rcases hk with hk | hk
    · obtain ⟨h1, h2, h3⟩ := hK k hk
      refine ⟨h1, by omega, fun e1 => ?_⟩
      rcases hatk k e1 with e2 | e2
      · exact h3 e2
      · omega
    · refine ⟨by omega, by omega, fun e1 => ?_⟩
      rcases hatk k e1 with e2 | e2
      · have := hv0 k e2; omega
      · omega
  · exact (how.lt k hk).2
  · rcases hat with e1 | e1
    · exact .inl (e1 ▸ hk)
    · rw [hk] at e1
      have e2 := Option.some.inj e1
      exact .inr (by omega)
end

/-! ### records -/
structure RcP where
  seq : Int
  data : List UInt8
def RcP.cells (r : RcP) : List Value := [.int .i64 r.seq, sv r.data]
def RcP.val (r : RcP) : Value := .agg #[.int .i64 r.seq, sv r.data]
def RcP.Ok (r : RcP) : Prop := i64 r.seq ∧ r.data.length ≤ maxLen
def recE (r : RcP) (cs : List Value) : Prop := cs = r.cells ∧ r.Ok
def recG (_ : Nat → Prop) (_ : World) (r : RcP) (cs : List Value) : Prop := recE r cs
theorem recG_elem : Elem recG := ⟨fun _ _ _ _ _ _ h _ => h⟩
theorem info52 : (Tryz.prog.info? 52).map (fun i => (i.zero, i.size, i.bytes)) = some (some (.agg #[.int .i64 0, .string ⟨#[]⟩]), 2, 24) := by kernel_rfl

theorem take_le (S : RS) (n : Nat) : (S.take n).1.length ≤ S.rest.length := by
  unfold RS.take
  split
  · split
    · simp
    · simp only [List.length_take]; omega
  · simp
theorem fail_rest (S : RS) (e : Int) : (S.fail e).rest.length ≤ S.rest.length := by unfold RS.fail; split <;> simp
theorem many_rest (S : RS) (k : Nat) : (S.many k).2.rest.length ≤ S.rest.length := by
  unfold RS.many
  split
  · exact Nat.le_trans (fail_rest _ _) (take_rest S 4)
  · exact take_rest S 4
theorem text_le (S : RS) : S.text.1.length ≤ S.rest.length := Nat.le_trans (take_le _ _) (many_rest S 1)
theorem int_bd (S : RS) : i64 S.int.1 := by
  unfold RS.int i64
  rw [IntKind.wrap_i64]
  omega

def unRec (b : List UInt8) : RcP × Int :=
  if (RS.mk b 0).int.2.text.2.done = 0 then (⟨(RS.mk b 0).int.1, (RS.mk b 0).int.2.text.1⟩, 0) else (⟨0, []⟩, (RS.mk b 0).int.2.text.2.done)
theorem unRec_ok (b : List UInt8) (hb : b.length ≤ 1073741824) : (unRec b).1.Ok := by
  have h1 := int_bd (RS.mk b 0)
  have h2 := text_le (RS.mk b 0).int.2
  have h3 : (RS.mk b 0).int.2.rest.length ≤ b.length := take_rest (RS.mk b 0) 8
  unfold unRec
  split
  · exact ⟨h1, by unfold maxLen; simp only; omega⟩
  · exact ⟨by unfold i64; simp only; omega, by simp⟩
theorem Fr.no_of {F : Nat → Prop} {w w' : World} {b : Nat} (h : Fr F w w') (hb : w.heap.size ≤ b) (hF : ∀ k, F k → b ≤ k) : Fr No w w' := h.mono fun k hk hf => by have := hF k hf; omega
set_option maxRecDepth 100000 in
set_option maxHeartbeats 2000000 in
theorem unRec_any (b : List UInt8) (w : World) (hb : b.length ≤ 1073741824) : Calls Tryz.prog 132 #[sv b] w fun e w' => e = .returned (.tuple #[(unRec b).1.val, .int .i64 (unRec b).2]) ∧ Fr No w w' := by
  obtain ⟨w0, hw0⟩ : ∃ w0, w.alloc (.cells #[.int .i64 0, .string ⟨#[]⟩] 52) = w0 := ⟨_, rfl⟩
  obtain ⟨gr, hgr⟩ : ∃ gr, w.heap.size = gr := ⟨_, rfl⟩
  obtain ⟨w1, hw1⟩ : ∃ w1, w0.alloc (.cells #[sv b, .int .i64 0] 235) = w1 := ⟨_, rfl⟩
  obtain ⟨p, hp⟩ : ∃ p, w0.heap.size = p := ⟨_, rfl⟩
  have hb0 : Blk w0 gr 52 #[.int .i64 0, .string ⟨#[]⟩] := by rw [← hw0, ← hgr]; exact Blk.new w 52 _
  have f0 : Fr No w w0 := by rw [← hw0]; exact (Fr.refl _ w).alloc _
  have f1 : Fr No w0 w1 := by rw [← hw1]; exact (Fr.refl _ w0).alloc _
  have hr1 : RAt w1 (some p) ⟨b, 0⟩ := by rw [← hw1, ← hp]; exact RAt.new w0 b hb
  have hb1 := hb0.of (f1.block gr hb0.lt id)
  have hgp : gr < p := by have := hb0.lt; omega
  have HR1 := Lib.hid hr1
  have HB1 := Lib.hid hb1
  have F1 : Hid (Fr (fun k => gr ≤ k) w w1) := Lib.hid ((f0.trans f1 fun _ _ h => h).any)
  have HW0 := Lib.hid hw0
  have HW1 := Lib.hid hw1
  have HP := Lib.hid hp
  have HGR := Lib.hid hgr
  have HV : Hid (unRec b = if (RS.mk b 0).int.2.text.2.done = 0 then (⟨(RS.mk b 0).int.1, (RS.mk b 0).int.2.text.1⟩, 0) else (⟨0, []⟩, (RS.mk b 0).int.2.text.2.done)) := Lib.hid rfl
  clear hb0 f0 f1 hr1 hb1 hw0 hw1 hp hgr
  go_enter Tryz.func132, Tryz.ntmps132
  go_wp2_with fail
  rw [HW0.out, HGR.out]
  refine (read_any b w0).mono ?_
  rintro e w' ⟨rfl, hw'⟩
  rw [HW1.out] at hw'
  subst hw'
  rw [HP.out]
  go_wp2_with fail
  have C1 := rint_any (some p) _ w1 HR1.out
  rw [wpt_some] at C1
  refine C1.mono ?_
  clear C1
  rintro e w2 ⟨rfl, h2, f2⟩
  have H2 := Lib.hid h2
  have HB2 := Lib.hid (HB1.out.of (f2.block gr HB1.out.lt fun e => by have := Option.some.inj e; omega))
  have F2 : Hid (Fr (fun k => gr ≤ k) w w2) := Lib.hid (F1.out.trans f2 fun k _ hk => by have := Option.some.inj hk; omega)
  clear h2 f2
  go_wp2_with fail
  have C2 := rtext_any (some p) _ w2 H2.out
  rw [wpt_some] at C2
  refine C2.mono ?_
  clear C2
  rintro e w3 ⟨rfl, h3, f3⟩
  have H3 := Lib.hid h3
  have HB3 := Lib.hid (HB2.out.of (f3.block gr HB2.out.lt fun e => by have := Option.some.inj e; omega))
  have F3 : Hid (Fr (fun k => gr ≤ k) w w3) := Lib.hid (F2.out.trans f3 fun k _ hk => by have := Option.some.inj hk; omega)
  clear h3 f3
  go_wp2_with fail
  have C3 := rdone_any (some p) _ w3 H3.out
  rw [wpt_some] at C3
  refine C3.mono ?_
  clear C3
  rintro e w' ⟨rfl, rfl⟩
  obtain ⟨dn, hdn⟩ : ∃ dn, (RS.mk b 0).int.2.text.2.done = dn := ⟨_, rfl⟩
  rw [hdn] at HV ⊢
  obtain ⟨nn, hnn⟩ : ∃ nn, (RS.mk b 0).int.1 = nn := ⟨_, rfl⟩
  rw [hnn] at HV ⊢
  obtain ⟨tx, htx⟩ : ∃ tx, (RS.mk b 0).int.2.text.1 = tx := ⟨_, rfl⟩
  rw [htx] at HV ⊢
  have z0 : w3.cell? ⟨gr, 0, none⟩ = some (.int .i64 0) := HB3.out.cell 0
  have z1 : w3.cell? ⟨gr, 1, none⟩ = some (.string ⟨#[]⟩) := HB3.out.cell 1
  have y0 := HB3.out.frozen 0
  have y1 := HB3.out.frozen 1
  have hfin : ∀ u0 u1, Fr No w ((w3.setCell ⟨gr, 0, none⟩ u0).setCell ⟨gr, 1, none⟩ u1) := fun u0 u1 => by
    have hg := HGR.out
    exact ((F3.out.setCell (p := ⟨gr, 0, none⟩) (fun _ => Nat.le_refl gr) u0).setCell (p := ⟨gr, 1, none⟩) (fun _ => Nat.le_refl gr) u1).no_of (b := gr) (by omega) fun k hk => hk
  have HFIN := Lib.hid hfin
  clear hdn hnn htx hfin
  by_cases he : dn = 0
  · subst he
    have HE : Hid (unRec b = (⟨nn, tx⟩, 0)) := Lib.hid (by rw [HV.out, if_pos rfl])
    go_wp2
    refine bodyPost_ret (v := .tuple #[.agg #[.int .i64 nn, sv tx], .int .i64 0]) (by simp [results, Tryz.results132, go_sem, z0, z1]) rfl ?_
    exact ⟨by rw [HE.out]; rfl, HFIN.out _ _⟩
  · have HE : Hid (unRec b = (⟨0, []⟩, dn)) := Lib.hid (by rw [HV.out, if_neg he])
    have hd : (dn != 0) = true := by simpa using he
    clear he
    go_wp2
    refine bodyPost_ret (v := .tuple #[.agg #[.int .i64 0, sv []], .int .i64 dn]) (by simp [results, Tryz.results132, go_sem, z0, z1]) rfl ?_
    exact ⟨by rw [HE.out]; rfl, HFIN.out _ _⟩

/-! ### follows -/
def followsW (rs : List RcP) (r : RcP) : Bool :=
  match rs.getLast? with
  | none => decide (1 ≤ r.seq)
  | some q => decide (1 < r.seq) && (r.seq - 1 == q.seq)
theorem Grow.lastSeq {b : Nat} {w : World} {A : Option Addr} {n c : Nat} {rs : List RcP} {q : RcP} (h : Grow b 52 2 recG w (.slice A n c) (rs ++ [q])) :
    ∃ g, A = some ⟨g, 0, none⟩ ∧ n = rs.length + 1 ∧ g < w.heap.size ∧ ∀ w' : World, w'.heap[g]? = w.heap[g]? → w'.cell? ⟨g, rs.length * 2, none⟩ = some (.int .i64 q.seq) := by
  obtain ⟨K, xs, ho, hel, hK⟩ := h
  rcases ho.2 with ⟨e1, h0⟩ | ⟨g, cap, cur, e1, hg, hh, hn, hcm, hcs, htk⟩
  · simp at h0
  · injection e1 with e1 e3 e2
    subst e1; subst e2
    refine ⟨g, rfl, by rw [e3]; simp, (World.ownsRow.lt ho g rfl).2, fun w' hw => ?_⟩
    obtain ⟨cs, h1, h2, h3, _⟩ := hel rs.length (by simp)
    rw [cell_of_row w' g _ cur 52 (0, 0) (hw.trans hh)]
    have h4 := h2 0 (by omega)
    rw [← htk, List.getElem?_take, if_pos (by simp)] at h4
    rw [h3] at h4
    simpa [RcP.cells] using h4
set_option maxRecDepth 100000 in
set_option maxHeartbeats 2000000 in
theorem follows_any {b : Nat} {w : World} {A : Option Addr} {n c : Nat} {rs : List RcP} (r : RcP) (h : Grow b 52 2 recG w (.slice A n c) rs) (hr : r.Ok) (hn : rs.length ≤ 1000000000) :
    Calls Tryz.prog 133 #[.slice A n c, .agg #[.int .i64 r.seq, sv r.data]] w fun e w' => e = .returned (.bool (followsW rs r)) ∧ Fr No w w' := by
  obtain ⟨w0, hw0⟩ : ∃ w0, w.alloc (.cells #[.int .i64 r.seq, sv r.data] 52) = w0 := ⟨_, rfl⟩
  obtain ⟨gr, hgr⟩ : ∃ gr, w.heap.size = gr := ⟨_, rfl⟩
  have hb0 : Blk w0 gr 52 #[.int .i64 r.seq, sv r.data] := by rw [← hw0, ← hgr]; exact Blk.new w 52 _
  have f0 : Fr No w w0 := by rw [← hw0]; exact (Fr.refl _ w).alloc _
  have z0 : w0.cell? ⟨gr, 0, none⟩ = some (.int .i64 r.seq) := hb0.cell 0
  have F0 := Lib.hid f0
  have HW0 := Lib.hid hw0
  have HGR := Lib.hid hgr
  have hs1 : -9223372036854775808 ≤ r.seq := hr.1.1
  have hs2 : r.seq ≤ 9223372036854775807 := hr.1.2
  rcases List.eq_nil_or_concat rs with rfl | ⟨fs, q, hf⟩
  · have hn0 : n = 0 := by
      obtain ⟨A', c', e⟩ := h.len
      injection e
    subst hn0
    have HE : Hid (followsW [] r = decide (1 ≤ r.seq)) := Lib.hid rfl
    clear h hb0 f0 hw0 hgr hr
    go_enter Tryz.func133, Tryz.ntmps133
    go_wp2_with fail
    rw [HW0.out, HGR.out]
    go_wp2
    go_ret
    exact ⟨by rw [HE.out]; rfl, F0.out⟩
  · rw [List.concat_eq_append] at hf
    subst hf
    obtain ⟨g, rfl, rfl, hg, hcell⟩ := h.lastSeq
    have x0 : w0.cell? ⟨g, fs.length * 2, none⟩ = some (.int .i64 q.seq) := hcell w0 (f0.block g hg id)
    have HE : Hid (followsW (fs ++ [q]) r = (decide (1 < r.seq) && (r.seq - 1 == q.seq))) := Lib.hid (by unfold followsW; simp)
    obtain ⟨m, hm⟩ : ∃ m, fs.length = m := ⟨_, rfl⟩
    obtain ⟨k, hk⟩ : ∃ k, fs.length + 1 = k := ⟨_, rfl⟩
    have hkl : k ≤ 1000000000 := by rw [← hk]; simpa using hn
    have hwk : IntKind.i64.wrap ((k : Int) - 1) = (m : Int) := by rw [show (k : Int) - 1 = (m : Int) by omega]; exact IntWalk.i64_in _ (by omega)
    have b1 : (0 : Int) ≤ (m : Int) := by omega
    have b2 : (m : Int) < (k : Int) := by omega
    have b3 : (k : Int) ≤ 1000000000 := by omega
    have t0 : ((k : Int) == 0) = false := by rw [beq_eq_false_iff_ne]; omega
    have t0' : (k == 0) = false := by rw [beq_eq_false_iff_ne]; omega
    have hk0 : k ≠ 0 := by omega
    rw [hm] at x0
    rw [hk] at *
    clear h hb0 f0 hw0 hgr hr hcell hm hk hn hk0
    by_cases hp : 1 < r.seq
    · have hd : decide (1 < r.seq) = true := by simpa using hp
      have hw1 : IntKind.i64.wrap (r.seq - 1) = r.seq - 1 := IntWalk.i64_in _ (by omega)
      have HE2 : Hid (followsW (fs ++ [q]) r = (r.seq - 1 == q.seq)) := Lib.hid (by rw [HE.out, hd]; rfl)
      clear hp
      go_enter Tryz.func133, Tryz.ntmps133
      go_upto_region 3 with fail
      rw [HW0.out, HGR.out]
      go_quiet (fail)
      all_goals go_wp2
      all_goals go_ret
      all_goals exact ⟨by rw [HE2.out]; rfl, F0.out.drewN _⟩
    · have hd : decide (1 < r.seq) = false := by simpa using hp
      have HE2 : Hid (followsW (fs ++ [q]) r = false) := Lib.hid (by rw [HE.out, hd]; rfl)
      clear hp hwk
      go_enter Tryz.func133, Tryz.ntmps133
      go_upto_region 3 with fail
      rw [HW0.out, HGR.out]
      go_quiet (fail)
      all_goals go_wp2
      all_goals go_ret
      all_goals exact ⟨by rw [HE2.out]; rfl, F0.out.drewN _⟩

/-! ### scan -/
/-- What a segment's bytes hold, from a place on; none: the log may not be. -/
def scanW : Nat → List RcP → List UInt8 → Nat → Option (List RcP × Nat)
  | 0, rs, D, at_ => some (rs, at_)
  | k + 1, rs, D, at_ =>
    if at_ < D.length then
      if (unfR (D.drop at_)).2.2 = 20 then some (rs, at_)
      else if (unfR (D.drop at_)).2.2 ≠ 0 then none
      else if (unRec (unfR (D.drop at_)).1).2 ≠ 0 then none
      else if followsW rs (unRec (unfR (D.drop at_)).1).1 then scanW k (rs ++ [(unRec (unfR (D.drop at_)).1).1]) D (at_ + (unfR (D.drop at_)).2.1)
      else none
    else some (rs, at_)
/-- A call of scan. -/
def ScanP (b : Nat) (w : World) (v : Value) (res : Option (List RcP × Nat)) (e : Ending) (w' : World) : Prop :=
  (∀ rs at_, res = some (rs, at_) → ∃ A c, e = .returned (.tuple #[.slice A rs.length c, .int .i64 (at_ : Nat)]) ∧ Grow b 52 2 recG w' (.slice A rs.length c) rs ∧ (∀ k, (Value.slice A rs.length c).ownBlock = some k → v.ownBlock = some k ∨ w.heap.size ≤ k)) ∧
    (res = none → e = .panicked [{ v := given 24, recovered := false }]) ∧ Fr (fun k => v.ownBlock = some k) w w'
theorem unfR_size (l : List UInt8) (h : (unfR l).2.2 = 0) : 8 ≤ (unfR l).2.1 ∧ (unfR l).2.1 ≤ l.length ∧ (unfR l).1.length ≤ l.length := by
  unfold unfR at h ⊢
  split at h
  · simp at h
  · rename_i h8
    split at h
    · simp at h
    · rename_i hn
      split at h
      · simp at h
      · rename_i hc
        split at h
        · simp at h
        · rename_i hk
          rw [if_neg h8, if_neg hn, if_neg hc, if_neg hk]
          refine ⟨by simp, by simp only; omega, ?_⟩
          simp only [List.length_take, List.length_drop]
          omega
end Go.Proofs.YtpeafckomahjgaaGreatDoor
