/- A key's row among the groups. -/
import Derived.Test.YtlpglijikmnopaaGreatDoorUG5
namespace Go.Proofs.YtlpglijikmnopaaGreatDoor
open Go.RowKit Go.Maps Go.Sort
set_option linter.unusedVariables false

/-- A call that tells fresh groups. -/
def TellsG (b : Nat) (z : Ac) (w : World) (e : Ending) (w' : World) : Prop := ∃ g m n0, e = .returned (.pointer (some ⟨g, 0, none⟩)) ∧ Gs b g m n0 z (.slice none 0 0) [] w' ∧ w.heap.size ≤ g ∧ w.heap.size ≤ m ∧ Fr No w w'
theorem newGroups_any {b : Nat} (z : Ac) (zv : Value) (w : World) (hb : b ≤ w.heap.size) (h : PRz (fun k => b ≤ k) w zv z.parts) : Calls Tryz.prog 36 #[.agg #[.int .i64 z.count, zv]] w (TellsG b z w) := by
  obtain ⟨B, hB⟩ : ∃ B, w.heap.size = B := ⟨_, rfl⟩
  obtain ⟨w1, hw1⟩ : ∃ w1, w.alloc (.cells #[.int .i64 z.count, zv] 48) = w1 := ⟨_, rfl⟩
  obtain ⟨w2, hw2⟩ : ∃ w2, w1.alloc (.map #[] 0) = w2 := ⟨_, rfl⟩
  obtain ⟨w3, hw3⟩ : ∃ w3, w2.alloc (.cells #[.int .i64 z.count, zv, .map (some (B + 1)), .slice none 0 0] 111) = w3 := ⟨_, rfl⟩
  have f1 : Fr No w w1 := by rw [← hw1]; exact (Fr.refl No w).alloc _
  have f2 : Fr No w1 w2 := by rw [← hw2]; exact (Fr.refl No w1).alloc _
  have f3 : Fr No w2 w3 := by rw [← hw3]; exact (Fr.refl No w2).alloc _
  have hs1 : w1.heap.size = B + 1 := by rw [← hw1, ← hB]; simp
  have hs2 : w2.heap.size = B + 2 := by rw [← hw2]; simp; omega
  have hs3 : w3.heap.size = B + 3 := by rw [← hw3]; simp; omega
  have hm : MapI w2 (B + 1) 0 (fun _ => none) := by rw [← hw2, ← hs1]; exact MapI.new w1
  have hg : Blk w3 (B + 2) 111 #[.int .i64 z.count, zv, .map (some (B + 1)), .slice none 0 0] := by rw [← hw3, ← hs2]; exact Blk.new w2 111 _
  have hx : Blk w1 B 48 #[.int .i64 z.count, zv] := by rw [← hw1, ← hB]; exact Blk.new w 48 _
  have hF := (f1.trans f2 fun _ _ h => h).trans f3 fun _ _ h => h
  have hend : TellsG b z w (.returned (.pointer (some ⟨B + 2, 0, none⟩))) w3 := by
    refine ⟨B + 2, B + 1, B + 3, rfl, ⟨⟨zv, hg, ?_⟩, GrX.nil_ _ _ _ _ _ _, ?_, fun k hk => ?_, ?_⟩, by omega, by omega, hF⟩
    · exact h.mono' fun k hk hlt => ⟨⟨hk, by omega, by omega, by omega⟩, hF.block k hlt id⟩
    · have := hm.of (f3.block (B + 1) (by omega) id)
      exact this
    · simp [Value.ownBlock] at hk
    · omega
  have c0 := hx.cell 0
  have c1 := hx.cell 1
  obtain ⟨A, c, hzv, -⟩ := h.form
  have HW1 := Lib.hid hw1
  have HW2 := Lib.hid hw2
  have HW3 := Lib.hid hw3
  have HB := Lib.hid hB
  have HS1 := Lib.hid hs1
  have HS2 := Lib.hid hs2
  have HEND := Lib.hid hend
  have hmm := @run_makeMap Tryz.prog
  clear hend hF hx hg hm hs1 hs2 hs3 f1 f2 f3 hw1 hw2 hw3 hB h
  subst hzv
  go_enter Tryz.func36, Tryz.ntmps36
  go_upto_region 1 with fail
  rw [HW1.out, HB.out]
  go_wp2_with fail
  rw [HS1.out, HW2.out, HW3.out]
  go_ret
  exact HEND.out

def TellsK (b : Nat) (w0 : World) (l : List Tx) (e : Ending) (w' : World) : Prop := ∃ A n c, e = .returned (.slice A n c) ∧ n = l.length ∧ KRz (fun k => b ≤ k) w' (.slice A n c) l ∧ Fr No w0 w'
theorem TellsRz.k {b : Nat} {w0 w w' : World} {l : List Tx} {e : Ending} (h : TellsRz l w e w') (f : Fr No w0 w) (hb : b ≤ w.heap.size) : TellsK b w0 l e w' := by
  obtain ⟨v, rfl, h1, h2⟩ := h
  have h3 := h1.mono (K' := fun k => b ≤ k) (fun k hk _ => ⟨Nat.le_trans hb hk, rfl⟩) fun _ _ h => h
  obtain ⟨A, c, e, _⟩ := h3.form
  subst e
  exact ⟨A, _, c, rfl, rfl, h3, f.trans h2 fun _ _ h => h⟩
/-- A row more. -/
theorem Gs.add {b g m n0 : Nat} {z : Ac} {rv kv : Value} {l : List Rw} {k : Ky} {w5 w6 : World} {zv : Value} (hb : Blk w5 g 111 #[.int .i64 z.count, zv, .map (some m), rv]) (hz : PRz (fun k => b ≤ k ∧ k < n0 ∧ k ≠ g ∧ k ≠ m) w5 zv z.parts) (hr : GrX (fun k => b ≤ k ∧ k ≠ g ∧ k ≠ m) b 50 3 rwU w5 rv l) (hm : MapI w5 m (l.length + 1) (putM (idxF l) (jnT k) (l.length : Nat)))
    (hown : ∀ k, rv.ownBlock = some k → n0 ≤ k) (hap : b ≤ g ∧ g < n0 ∧ b ≤ m ∧ m < n0 ∧ n0 ≤ w5.heap.size) (hk : (atK l k).isSome = false) (f : Fr No w5 w6) (hkr : KRz (fun k => w5.heap.size ≤ k) w6 kv k) (hl : l.length < 4000000) :
    ∃ A c w7, (∀ ty, (Builtin.append_ #[28, 28] ty #[rv, .slice (some ⟨w6.heap.size, 0, none⟩) 1 1]).run Tryz.prog (w6.alloc (.cells #[kv, .int .i64 z.count, zv] 50)) = .ok (.slice A (l.length + 1) c) w7) ∧ (∃ u, w7.cell? ⟨g, 3, none⟩ = some u) ∧ w7.frozen? ⟨g, 3, none⟩ = false ∧
      Gs b g m n0 z (.slice A (l.length + 1) c) (rowG z l k) (w7.setCell ⟨g, 3, none⟩ (.slice A (l.length + 1) c)) ∧ Fr (fun j => j = g ∨ j = m ∨ rv.ownBlock = some j) w5 (w7.setCell ⟨g, 3, none⟩ (.slice A (l.length + 1) c)) ∧
      ∀ j, (Value.slice A (l.length + 1) c).ownBlock = some j → rv.ownBlock = some j ∨ w5.heap.size ≤ j := by
  have hr6 := hr.keep rwU_elem f fun _ h _ => h.elim
  have hrow : rowG z l k = l ++ [⟨k, z⟩] := by unfold rowG; rw [if_neg (by rw [hk]; decide)]
  have hlt5 := hr.lt
  obtain ⟨A, c, w7, hrun, hg7, f7, ho7⟩ := GrX.add (bytes := 56) rwU_elem hr6 (by have := f.size; omega) 28 Tryz.underlying28 (.agg #[.slice none 0 0, .int .i64 0, .slice none 0 0]) (by kernel_rfl) rfl (by decide) (⟨k, z⟩ : Rw) [kv, .int .i64 z.count, zv] rfl (by
      intro u hu
      simp only [List.mem_cons, List.not_mem_nil, or_false] at hu
      rcases hu with rfl | rfl | rfl
      · exact hkr.one
      · rfl
      · exact hz.one) (K' := fun j => w5.heap.size ≤ j ∨ (b ≤ j ∧ j < n0 ∧ j ≠ g ∧ j ≠ m)) ⟨kv, zv, rfl, hkr.mono (fun j hj _ => ⟨.inl hj, rfl⟩) (fun _ _ h => h), (hz.no f).mono' fun j hj _ => ⟨.inr hj, rfl⟩⟩ (fun j hj hlt => by
      rcases hj with hj | hj
      · exact ⟨by omega, fun e => by have := (hlt5 j e).2; omega⟩
      · exact ⟨⟨hj.1, hj.2.2.1, hj.2.2.2⟩, fun e => by have := hown j e; omega⟩) (by omega) (by unfold maxLen; omega)
  have hgl : g < w6.heap.size := by have := f.size; omega
  have hml : m < w6.heap.size := by have := f.size; omega
  have hgo : rv.ownBlock ≠ some g := fun e => by have := hown g e; omega
  have hmo : rv.ownBlock ≠ some m := fun e => by have := hown m e; omega
  have hb7 : Blk w7 g 111 #[.int .i64 z.count, zv, .map (some m), rv] := (hb.no f).of (f7.block g hgl hgo)
  have hm7 : MapI w7 m (l.length + 1) (putM (idxF l) (jnT k) (l.length : Nat)) := (hm.of (f.block m hm.lt id)).of (f7.block m hml hmo)
  have hz7 : PRz (fun k => b ≤ k ∧ k < n0 ∧ k ≠ g ∧ k ≠ m) w7 zv z.parts := (hz.no f).mono' fun j hj hlt => ⟨hj, f7.block j hlt fun e => by have := hown j e; omega⟩
  have f8 : Fr (fun j => j = g) w7 (w7.setCell ⟨g, 3, none⟩ (.slice A (l.length + 1) c)) := (Fr.refl (fun j => j = g) w7).setCell (p := ⟨g, 3, none⟩) (fun _ => rfl) _
  have hown8 : ∀ j, (Value.slice A (l.length + 1) c).ownBlock = some j → n0 ≤ j := fun j hj => by
    rcases (ho7 j hj).2 with h | h
    · exact hown j h
    · have := f.size; omega
  have hne : m ≠ g := fun e => by
    obtain ⟨D, ⟨es, ck, hh, _⟩, _⟩ := hm
    have h2 : w5.heap[g]? = some (.cells #[.int .i64 z.count, zv, .map (some m), rv] 111 (0, 0)) := hb
    rw [e, h2] at hh
    cases hh
  refine ⟨A, c, w7, hrun, ⟨_, hb7.cell 3⟩, hb7.frozen 3, ⟨⟨zv, hb7.set_ 3 _, ?_⟩, ?_, ?_, hown8, ?_⟩, ?_⟩
  · exact hz7.mono' fun j hj hlt => ⟨hj, f8.block j hlt hj.2.2.1⟩
  · rw [hrow]
    refine hg7.keep rwU_elem f8 fun j hj hlt => ⟨fun h => h.2.1 hj, fun e => ?_⟩
    subst hj
    rcases (ho7 _ e).2 with h | h
    · exact hgo h
    · omega
  · rw [hrow, List.length_append, idxF_put hk]
    exact hm7.of (f8.block m hm7.lt hne)
  · have := f.size; have := f7.size; have := f8.size; omega
  · refine ⟨?_, fun j hj => ?_⟩
    rotate_left
    · rcases (ho7 j hj).2 with h | h
      · exact .inl h
      · exact .inr (Nat.le_trans f.size h)
    exact ((f.any (G := fun j => j = g ∨ j = m ∨ rv.ownBlock = some j)).trans f7 fun j _ h => .inr (.inr h)).trans f8 fun j _ h => .inl h
end Go.Proofs.YtlpglijikmnopaaGreatDoor
namespace Go.Proofs.YtlpglijikmnopaaGreatDoor
open Go.RowKit Go.Maps Go.Sort
set_option linter.unusedVariables false

def RowP (b g m n0 : Nat) (z : Ac) (rv : Value) (l : List Rw) (k : Ky) (w : World) (e : Ending) (w' : World) : Prop :=
  ∃ gr n c, e = .returned (.pointer (some ⟨gr, posK l k * 3, none⟩)) ∧ n = (rowG z l k).length ∧ Gs b g m n0 z (.slice (some ⟨gr, 0, none⟩) n c) (rowG z l k) w' ∧ Fr (fun j => j = g ∨ j = m ∨ rv.ownBlock = some j) w w' ∧ (rv.ownBlock = some gr ∨ w.heap.size ≤ gr)
theorem Gs.sm {b g m n0 : Nat} {z : Ac} {A : Option Addr} {n c : Nat} {l : List Rw} {w : World} (h : Gs b g m n0 z (.slice A n c) l w) (hl : 0 < l.length) : ∃ gr, A = some ⟨gr, 0, none⟩ := by
  obtain ⟨K, xs, ho, _⟩ := h.rows
  rcases ho.2 with ⟨e1, h0⟩ | ⟨gr, cap, cur, e1, _⟩
  · omega
  · injection e1 with e1
    exact ⟨gr, e1⟩
/-- What is asked of a key. -/
def Kok (k : Ky) : Prop := k.length ≤ 2097152 ∧ ∀ t ∈ k, t.length ≤ 2097152
theorem Kok.len {k : Ky} (h : Kok k) : (jnT k).length ≤ maxLen := by
  have := jnT_len h.2 k.length (Nat.le_refl _)
  rw [List.take_of_length_le (Nat.le_refl _)] at this
  refine Nat.le_trans this (Nat.le_trans (Nat.mul_le_mul_right 2097174 h.1) (by decide))
set_option maxRecDepth 100000 in
theorem row_found {K : Nat → Prop} {b g m n0 : Nat} {z : Ac} {rv kv : Value} {l : List Rw} {k : Ky} (w : World) (h : Gs b g m n0 z rv l w) (hk : KR K w kv k) (hok : Kok k) (hp : Pv w) (hl : l.length < 4000000) (hf : (atK l k).isSome = true) :
    Calls Tryz.prog 39 #[.pointer (some ⟨g, 0, none⟩), kv] w (RowP b g m n0 z rv l k w) := by
  have HJ := Lib.hid (joined_any w hk (by have := hok.1; omega) hok.2 hp)
  obtain ⟨A, c, rfl⟩ := h.form
  have hlt := posK_lt.2 hf
  obtain ⟨gr, rfl⟩ := h.sm (by omega)
  have hrow : rowG z l k = l := by unfold rowG; rw [if_pos hf]
  have hix : idxF l (jnT k) = some ((posK l k : Nat) : Int) := by rw [idxF_key, if_pos hf]
  obtain ⟨A2, c2, rfl, -⟩ := hk.form
  have HLEN := Lib.hid hok.len
  obtain ⟨T, hT⟩ : ∃ T, jnT k = T := ⟨_, rfl⟩
  rw [hT] at HJ hix HLEN
  obtain ⟨p, hp'⟩ : ∃ p, posK l k = p := ⟨_, rfl⟩
  rw [hp'] at hix hlt
  have HG := Lib.hid h
  have HIX := Lib.hid hix
  have HEND : Hid (∀ w', Fr No w w' → RowP b g m n0 z (.slice (some ⟨gr, 0, none⟩) l.length c) l k w (.returned (.pointer (some ⟨gr, p * 3, none⟩))) w') := Lib.hid fun w' f' => ⟨gr, l.length, c, by rw [hp'], by rw [hrow], by rw [hrow]; exact h.no f', f'.any, .inl rfl⟩
  obtain ⟨n, hn⟩ : ∃ n, l.length = n := ⟨_, rfl⟩
  rw [hn] at hl hlt HG HEND ⊢
  clear h hk hok hp hrow hix hf hT hp' hn
  go_enter Tryz.func39, Tryz.ntmps39
  go_wp2_with fail
  refine HJ.out.mono ?_
  rintro e w1 ⟨rfl, f1⟩
  obtain ⟨zv, hb, -⟩ := (HG.out.no f1).blk
  have hlk := (HG.out.no f1).map.look T HLEN.out
  rw [HIX.out] at hlk
  simp only [Option.getD_some, Option.isSome_some] at hlk
  have c2 := hb.cell 2
  have c3 := hb.cell 3
  have HF := Lib.hid f1
  clear hb f1
  go_wp2_with fail
  go_ret
  exact HEND.out _ HF.out
end Go.Proofs.YtlpglijikmnopaaGreatDoor
namespace Go.Proofs.YtlpglijikmnopaaGreatDoor
open Go.RowKit Go.Maps Go.Sort
set_option linter.unusedVariables false

/-- append at a step of a region that draws its order, by what it comes to. -/
theorem step_add {P : Program} {w : World} {ops : Array Oper} {o : Oper} {a : Act} {K : Act → World → Prop} {Q : Exit → Act → World → Prop} {E : Prop} (hgd : o.guard = none) (sl x : Operand) (t1 t2 : TypeId)
    (ho : o.op = .call { callee := .builtin .append, args := #[sl, x], argTypes := #[t1, t2] }) (v v' xv : Value) (w1 : World) (hs : a.eval sl = v) (hx : a.eval x = xv) (hr : (Builtin.append_ #[t1, t2] o.type #[v, xv]).run P w = .ok v' w1) (h : K (a.put o.dst v') w1) :
    if Region.wanted o (yielded ops a.tmps) = true then Oper.wp P o a w K Q else E := by
  have hw : Region.wanted o (yielded ops a.tmps) = true := by simp [Region.wanted, hgd]
  rw [if_pos hw]
  unfold Oper.wp execOp
  simp only [ho, resolve, invoke, builtin, Sem.run_bind, Sem.run_pure, Result.andThen_ok, List.map_toArray, List.map_cons, List.map_nil, hs, hx, hr]
  exact h
set_option maxRecDepth 100000 in
set_option maxHeartbeats 4000000 in
theorem row_new {K : Nat → Prop} {b g m n0 : Nat} {z : Ac} {rv kv : Value} {l : List Rw} {k : Ky} (w : World) (h : Gs b g m n0 z rv l w) (hk : KR K w kv k) (hKm : ¬ K m) (hok : Kok k) (hp : Pv w) (hl : l.length < 4000000) (hf : (atK l k).isSome = false) :
    Calls Tryz.prog 39 #[.pointer (some ⟨g, 0, none⟩), kv] w (RowP b g m n0 z rv l k w) := by
  have HJ := Lib.hid (joined_any w hk (by have := hok.1; omega) hok.2 hp)
  have HC : Hid (∀ w', Fr (fun j => j = m) w w' → Calls Tryz.prog 57 #[kv] w' (TellsRz k w')) := Lib.hid fun w' f' => cloneZ_any w' (RowE.mono hk (fun j hj hlt => ⟨hj, f'.block j hlt fun e => hKm (e ▸ hj)⟩) fun _ _ h => h) (by have := hok.1; omega)
  obtain ⟨A, c, rfl⟩ := h.form
  obtain ⟨A2, ck, rfl, -⟩ := hk.form
  have hrow : rowG z l k = l ++ [⟨k, z⟩] := by unfold rowG; rw [if_neg (by rw [hf]; decide)]
  have hix : idxF l (jnT k) = none := by rw [idxF_key, if_neg (by rw [hf]; decide)]
  have hpos : posK l k = l.length := by
    have h1 := posK_le l k
    rcases Nat.lt_or_ge (posK l k) l.length with h2 | h2
    · rw [posK_lt.1 h2] at hf; cases hf
    · omega
  have HLEN := Lib.hid hok.len
  have HK := Lib.hid hk
  obtain ⟨T, hT⟩ : ∃ T, jnT k = T := ⟨_, rfl⟩
  have HT := Lib.hid hT
  rw [hT] at HJ hix HLEN
  have HG := Lib.hid h
  have HIX := Lib.hid hix
  have HFN := Lib.hid hf
  have HRW := Lib.hid hrow
  have HPO := Lib.hid hpos
  obtain ⟨n, hn⟩ : ∃ n, l.length = n := ⟨_, rfl⟩
  have HN := Lib.hid hn
  rw [hn] at hl ⊢
  rw [hn] at HG
  clear h hk hok hp hrow hix hf hT hpos hn
  go_enter Tryz.func39, Tryz.ntmps39
  go_wp2_with fail
  refine HJ.out.mono ?_
  rintro e w1 ⟨rfl, f1⟩
  have hg1 := HG.out.no f1
  obtain ⟨zv, hb, hz⟩ := hg1.blk
  obtain ⟨Z, zc, rfl, -⟩ := hz.form
  obtain ⟨zn, hzn⟩ : ∃ x, z.parts.length = x := ⟨_, rfl⟩
  rw [hzn] at hb hz
  have hlk := hg1.map.look T HLEN.out
  rw [HIX.out] at hlk
  simp only [Option.getD_none, Option.isSome_none] at hlk
  obtain ⟨w2, hup, hm2, f2⟩ := hg1.map.put (by rw [HN.out]; unfold maxLen; omega) T HLEN.out (n : Int)
  have hgm : g ≠ m := fun e => by
    obtain ⟨D, ⟨es, ck, hh, _⟩, _⟩ := hg1.map
    have h2 : w1.heap[g]? = some (.cells _ 111 (0, 0)) := hb
    rw [← e, h2] at hh
    cases hh
  have hap := hg1.ap
  have hb2 : Blk w2 g 111 #[.int .i64 z.count, .slice Z zn zc, .map (some m), .slice A n c] := hb.of (f2.block g hb.lt hgm)
  have hz2 : PRz (fun k => b ≤ k ∧ k < n0 ∧ k ≠ g ∧ k ≠ m) w2 (.slice Z zn zc) z.parts := hz.mono' fun j hj hlt => ⟨hj, f2.block j hlt hj.2.2.2⟩
  have hr2 := hg1.rows.keep rwU_elem f2 fun j hj hlt => ⟨fun h => h.2.2 hj, fun e => by have := hg1.own j e; omega⟩
  have c2 := hb.cell 2
  have c3 := hb.cell 3
  have x0 := hb2.cell 0
  have x1 := hb2.cell 1
  have x3 := hb2.cell 3
  have z3 := hb2.frozen 3
  have HF1 := Lib.hid f1
  have HF2 := Lib.hid f2
  have HM2 : Hid (MapI w2 m (l.length + 1) (putM (idxF l) (jnT k) (l.length : Nat))) := Lib.hid (by rw [HT.out, HN.out]; exact (by rw [HN.out] at hm2; exact hm2))
  have HB2 := Lib.hid hb2
  have HZ2 := Lib.hid hz2
  have HR2 := Lib.hid hr2
  have HOW := Lib.hid hg1.own
  have HAP2 : Hid (b ≤ g ∧ g < n0 ∧ b ≤ m ∧ m < n0 ∧ n0 ≤ w2.heap.size) := Lib.hid (by have := f2.size; omega)
  have HE : Hid (∀ w6 A6 n6 c6, Fr No w2 w6 → KRz (fun j => w2.heap.size ≤ j) w6 (.slice A6 n6 c6) k → ∃ A' c' w7, (∀ ty, (Builtin.append_ #[28, 28] ty #[.slice A n c, .slice (some ⟨w6.heap.size, 0, none⟩) 1 1]).run Tryz.prog (w6.alloc (.cells #[.slice A6 n6 c6, .int .i64 z.count, .slice Z zn zc] 50)) = .ok (.slice A' (n + 1) c') w7) ∧ (∃ u, w7.cell? ⟨g, 3, none⟩ = some u) ∧ w7.frozen? ⟨g, 3, none⟩ = false ∧
      Hid (Gs b g m n0 z (.slice A' (n + 1) c') (rowG z l k) (w7.setCell ⟨g, 3, none⟩ (.slice A' (n + 1) c')) ∧ Fr (fun j => j = g ∨ j = m ∨ (Value.slice A n c).ownBlock = some j) w (w7.setCell ⟨g, 3, none⟩ (.slice A' (n + 1) c')) ∧ ∀ j, (Value.slice A' (n + 1) c').ownBlock = some j → (Value.slice A n c).ownBlock = some j ∨ w.heap.size ≤ j)) := Lib.hid fun w6 A6 n6 c6 f6 hk6 => by
    obtain ⟨A', c', w7, h1, h2, h3, h4, h5, h6⟩ := Gs.add HB2.out HZ2.out HR2.out HM2.out HOW.out HAP2.out HFN.out f6 hk6 (by rw [HN.out]; exact hl)
    rw [HN.out] at h1 h4 h5 h6
    refine ⟨A', c', w7, h1, h2, h3, Lib.hid ⟨h4, ?_, fun j hj => ?_⟩⟩
    rotate_left
    · rcases h6 j hj with h | h
      · exact .inl h
      · exact .inr (by have := HF1.out.size; have := HF2.out.size; omega)
    exact ((HF1.out.any (G := fun j => j = g ∨ j = m ∨ (Value.slice A n c).ownBlock = some j)).trans HF2.out fun j _ h => .inr (.inl h)).trans h5 fun _ _ h => h
  obtain ⟨kn, hkn⟩ : ∃ x, k.length = x := ⟨_, rfl⟩
  rw [hkn] at HC
  have HC2 : Hid (∀ w', Fr No w2 w' → Calls Tryz.prog 57 #[.slice A2 kn ck] w' (TellsK w2.heap.size w2 k)) := Lib.hid fun w' f' => by
    have f12 : Fr (fun j => j = m) w w2 := (HF1.out.any (G := fun j => j = m)).trans HF2.out fun _ _ h => h
    have f13 : Fr (fun j => j = m) w w' := f12.trans f' fun _ _ h => h.elim
    exact (HC.out w' f13).mono fun e w3 h3 => h3.k f' f'.size
  rw [hkn]
  clear HC HJ HK HZ2 HR2 HM2 HB2 hb hz hg1 hm2 f1 f2 hb2 hz2 hr2 hap hzn hkn
  go_upto_region 6 with fail
  clear hlk hup c2 c3
  go_cut [] (fun wx => ∃ A' c', Hid (Gs b g m n0 z (.slice A' (n + 1) c') (rowG z l k) wx ∧ Fr (fun j => j = g ∨ j = m ∨ (Value.slice A n c).ownBlock = some j) w wx ∧ ∀ j, (Value.slice A' (n + 1) c').ownBlock = some j → (Value.slice A n c).ownBlock = some j ∨ w.heap.size ≤ j))
  case first =>
    go_region_law (first
      | (obtain ⟨A', c', w7, hrun, ⟨u, hu⟩, hz7, H7⟩ := HEA; refine step_add (by rfl) _ _ _ _ (by rfl) _ _ _ _ (by rfl) (by rfl) (hrun _) ?_)
      | (obtain ⟨A', c', w7, hrun, ⟨u, hu⟩, hz7, H7⟩ := HEB; refine step_add (by rfl) _ _ _ _ (by rfl) _ _ _ _ (by rfl) (by rfl) (hrun _) ?_)
      | (go_simp; go_at_call 57; (with_reducible refine (HC2.out _ (by first | exact Fr.refl _ _ | exact (Fr.refl _ _).drew | exact (Fr.refl _ _).drew.drew | exact (Fr.refl _ _).drew.drew.drew)).mono ?_); rintro e w6 ⟨A6, n6, c6, rfl, -, hk6, f6⟩; have HEA := HE.out w6 A6 n6 c6 f6 hk6; have HEB := HE.out w6.drew A6 n6 c6 f6.drew (hk6.no (Fr.refl _ _).drew); have w0 := (cell_of_heap (f6.block g (by have := HAP2.out; omega) id) (o := 0)).trans x0; have w1 := (cell_of_heap (f6.block g (by have := HAP2.out; omega) id) (o := 1)).trans x1; have w3 := (cell_of_heap (f6.block g (by have := HAP2.out; omega) id) (o := 3)).trans x3; have y3 : (w6.alloc (.cells #[.slice A6 n6 c6, .int .i64 z.count, .slice Z zn zc] 50)).cell? ⟨g, 3, none⟩ = some (.slice A n c) := (cell_of_heap (((Fr.refl No w6).alloc (.cells #[.slice A6 n6 c6, .int .i64 z.count, .slice Z zn zc] 50)).block g (by have := HAP2.out; have := f6.size; omega) id) (o := 3)).trans w3; have y4 : (w6.drew.alloc (.cells #[.slice A6 n6 c6, .int .i64 z.count, .slice Z zn zc] 50)).cell? ⟨g, 3, none⟩ = some (.slice A n c) := (cell_of_heap (((Fr.refl No w6).drew.alloc (.cells #[.slice A6 n6 c6, .int .i64 z.count, .slice Z zn zc] 50)).block g (by have := HAP2.out; have := f6.size; omega) id) (o := 3)).trans w3; clear hk6 f6))
    all_goals (go_simp; go_wp2_with fail)
    all_goals go_meet
    all_goals exact ⟨_, _, H7⟩
  case rest =>
    obtain ⟨A', c', H⟩ := hcut
    obtain ⟨hg', hf', ho'⟩ := H.out
    obtain ⟨gr, rfl⟩ := hg'.sm (by rw [HRW.out]; simp)
    obtain ⟨zv', hb', -⟩ := hg'.blk
    have y3 := hb'.cell 3
    have HEND : Hid (RowP b g m n0 z (.slice A n c) l k w (.returned (.pointer (some ⟨gr, n * 3, none⟩))) wc) := Lib.hid ⟨gr, n + 1, c', by rw [HPO.out, HN.out], by rw [HRW.out, List.length_append, HN.out]; rfl, hg', hf', ho' gr rfl⟩
    clear hg' hf' ho' hb' x0 x1 x3 z3
    go_wp2_with fail
    go_ret
    exact HEND.out
end Go.Proofs.YtlpglijikmnopaaGreatDoor
namespace Go.Proofs.YtlpglijikmnopaaGreatDoor
open Go.RowKit Go.Maps Go.Sort
set_option linter.unusedVariables false

theorem row_any {K : Nat → Prop} {b g m n0 : Nat} {z : Ac} {rv kv : Value} {l : List Rw} {k : Ky} (w : World) (h : Gs b g m n0 z rv l w) (hk : KR K w kv k) (hKm : ¬ K m) (hok : Kok k) (hp : Pv w) (hl : l.length < 4000000) :
    Calls Tryz.prog 39 #[.pointer (some ⟨g, 0, none⟩), kv] w (RowP b g m n0 z rv l k w) := by
  cases hf : (atK l k).isSome with
  | true => exact row_found w h hk hok hp hl hf
  | false => exact row_new w h hk hKm hok hp hl hf
/-- What rows are asked to be. -/
def Wf (l : List Rw) : Prop := ∀ r ∈ l, Lok r.acc.parts
theorem Wf.row {l : List Rw} {z : Ac} (h : Wf l) (hz : Lok z.parts) (k : Ky) : Wf (rowG z l k) := by
  unfold rowG
  split
  · exact h
  · intro r hr
    rcases List.mem_append.1 hr with hr | hr
    · exact h r hr
    · simp only [List.mem_singleton] at hr
      rw [hr]; exact hz
theorem Wf.setA {l : List Rw} (h : Wf l) (i : Nat) {a : Ac} (ha : Lok a.parts) : Wf (setA l i a) := by
  unfold Go.Proofs.YtlpglijikmnopaaGreatDoor.setA
  split
  · intro r hr
    rcases List.mem_or_eq_of_mem_set hr with hr | rfl
    · exact h r hr
    · exact ha
  · exact h
theorem Gs.look {b g m n0 gr n c i : Nat} {z : Ac} {l : List Rw} {w : World} (h : Gs b g m n0 z (.slice (some ⟨gr, 0, none⟩) n c) l w) (hi : i < l.length) :
    (∃ pv, w.cell? ⟨gr, i * 3 + 1, none⟩ = some (.int .i64 l[i].acc.count) ∧ w.cell? ⟨gr, i * 3 + 2, none⟩ = some pv ∧ PRz (fun k => b ≤ k ∧ k ≠ g ∧ k ≠ m) w pv l[i].acc.parts) ∧ (∀ j, w.frozen? ⟨gr, j, none⟩ = false) ∧ gr < w.heap.size := by
  obtain ⟨⟨kv, pv0, -, h1, h2, h3⟩, hz, -⟩ := h.rows.setAz hi ⟨0, []⟩ (pv := .slice none 0 0) (K' := No) (PRz.nil _ _) fun j hj => hj.elim
  exact ⟨⟨pv0, h1, h2, h3⟩, hz, (h.rows.lt gr rfl).2⟩
/-- Groups with a row's accumulator stored anew. -/
theorem Gs.store {b g m n0 gr n c i : Nat} {z : Ac} {l : List Rw} {w : World} (h : Gs b g m n0 z (.slice (some ⟨gr, 0, none⟩) n c) l w) (hi : i < l.length) (a : Ac) {w2 : World} {pv : Value} (f : Fr No w w2) (hp : PO w.heap.size w2 pv a.parts) :
    Gs b g m n0 z (.slice (some ⟨gr, 0, none⟩) n c) (setA l i a) ((w2.setCell ⟨gr, i * 3 + 1, none⟩ (.int .i64 a.count)).setCell ⟨gr, i * 3 + 2, none⟩ pv) ∧
    Fr (fun j => j = gr) w ((w2.setCell ⟨gr, i * 3 + 1, none⟩ (.int .i64 a.count)).setCell ⟨gr, i * 3 + 2, none⟩ pv) := by
  have hap := h.ap
  have hgr := (h.rows.lt gr rfl).2
  have hgo := h.own gr rfl
  refine ⟨?_, ?_⟩
  · obtain ⟨-, -, h4⟩ := (h.no f).rows.setAz hi a (pv := pv) (K' := fun k => w.heap.size ≤ k) hp.prz fun j hj hlt => ⟨⟨by omega, by omega, by omega⟩, by omega⟩
    obtain ⟨zv, hb, hzv⟩ := (h.no f).blk
    obtain ⟨wx, hwx⟩ : ∃ wx, (w2.setCell ⟨gr, i * 3 + 1, none⟩ (.int .i64 a.count)).setCell ⟨gr, i * 3 + 2, none⟩ pv = wx := ⟨_, rfl⟩
    have fx : Fr (fun j => j = gr) w2 wx := by rw [← hwx]; exact ((Fr.refl (fun j => j = gr) w2).setCell (p := ⟨gr, i * 3 + 1, none⟩) (fun _ => rfl) _).setCell (p := ⟨gr, i * 3 + 2, none⟩) (fun _ => rfl) _
    rw [hwx] at h4 ⊢
    have hs2 := f.size
    have hgm : m ≠ gr := fun e => by
      obtain ⟨D, ⟨es, ck, hh, _⟩, _⟩ := (h.no f).map
      obtain ⟨K, xs, ho, _⟩ := (h.no f).rows
      obtain ⟨cur, hc⟩ := own_row ho rfl
      rw [e, hc] at hh
      cases hh
    have hbg : g ≠ gr := fun e => by
      obtain ⟨K, xs, ho, _⟩ := (h.no f).rows
      exact own_blk_ne ho rfl hb (by decide) e.symm
    refine ⟨⟨zv, hb.of (fx.block g (by omega) hbg), hzv.mono' fun j hj hlt => ⟨hj, fx.block j hlt fun e => by omega⟩⟩, h4, ?_, h.own, by have := fx.size; omega⟩
    rw [setA_len]
    have e : idxF (setA l i a) = idxF l := by
      funext t
      unfold idxF
      have : ∀ (l : List Rw), (l.findIdx? fun r => decide (jnT r.key = t)) = ((l.map Rw.key).findIdx? fun k => decide (jnT k = t)) := fun l => by
        rw [List.findIdx?_map]; rfl
      rw [this, this, setA_keys]
    rw [e]
    exact ((h.no f).map).of (fx.block m (by omega) hgm)
  · exact ((f.any (G := fun j => j = gr)).setCell (p := ⟨gr, i * 3 + 1, none⟩) (fun _ => rfl) _).setCell (p := ⟨gr, i * 3 + 2, none⟩) (fun _ => rfl) _
/-- A call that leaves the groups with other rows. -/
def TellsU (b g m n0 : Nat) (z : Ac) (rv : Value) (l' : List Rw) (w : World) (e : Ending) (w' : World) : Prop := e = .returned (.tuple #[]) ∧ ∃ rv', Gs b g m n0 z rv' l' w' ∧ Fr (fun j => j = g ∨ j = m ∨ rv.ownBlock = some j) w w'
set_option maxRecDepth 100000 in
set_option maxHeartbeats 1000000 in
theorem gmerge_any {K K2 : Nat → Prop} {b g m n0 : Nat} {z : Ac} {rv kv pv : Value} {l : List Rw} {k : Ky} {cnt : Int} {ps : List Pt} (w : World) (h : Gs b g m n0 z rv l w) (hk : KR K w kv k) (hKm : ¬ K m) (hok : Kok k) (hp : Pv w) (hl : l.length < 4000000)
    (hw : Wf l) (hz : Lok z.parts) (ha : PR K2 w pv ps) (hK2 : ∀ j, K2 j → j < b) (hps : Lok ps) :
    Calls Tryz.prog 50 #[.pointer (some ⟨g, 0, none⟩), kv, .agg #[.int .i64 cnt, pv]] w (TellsU b g m n0 z rv (updG mergeA z l k ⟨cnt, ps⟩) w) := by
  obtain ⟨y, hy⟩ : ∃ y, w.heap.size = y := ⟨_, rfl⟩
  obtain ⟨w0, hw0⟩ : ∃ w0, w.alloc (.cells #[.int .i64 cnt, pv] 48) = w0 := ⟨_, rfl⟩
  have f0 : Fr No w w0 := by rw [← hw0]; exact (Fr.refl No w).alloc _
  have hb0 : Blk w0 y 48 #[.int .i64 cnt, pv] := by rw [← hw0, ← hy]; exact Blk.new w 48 _
  have HR := Lib.hid (row_any w0 (h.no f0) (hk.no f0) hKm hok (hp.no f0) hl)
  have hap := h.ap
  have hyo : rv.ownBlock ≠ some y := fun e => by have := (h.rows.lt y e).2; omega
  obtain ⟨A2, ck, rfl, -⟩ := hk.form
  obtain ⟨kn, hkn⟩ : ∃ x, k.length = x := ⟨_, rfl⟩
  rw [hkn] at HR ⊢
  obtain ⟨B, pc, rfl, -⟩ := ha.form
  obtain ⟨pn, hpn⟩ : ∃ x, ps.length = x := ⟨_, rfl⟩
  have HPN := Lib.hid hpn
  rw [hpn] at hw0 hb0 ha ⊢
  have HY := Lib.hid hy
  have HW0 := Lib.hid hw0
  have HF0 := Lib.hid f0
  have HB0 := Lib.hid hb0
  have HWF := Lib.hid (hw.row hz k)
  have HPS := Lib.hid hps
  have HA := Lib.hid (ha.no f0)
  have HYO := Lib.hid hyo
  have HNE : Hid (y ≠ g ∧ y ≠ m ∧ y < w0.heap.size) := Lib.hid ⟨by omega, by omega, hb0.lt⟩
  have HAPB : Hid (∀ j, K2 j → ¬ (j = g ∨ j = m ∨ rv.ownBlock = some j)) := Lib.hid fun j hj e => by
    have := hK2 j hj
    rcases e with e | e | e
    · omega
    · omega
    · have := h.own j e; omega
  clear h hk hok hp hl hw hz ha hps hy hw0 f0 hb0 hyo hpn hkn hap
  go_enter Tryz.func50, Tryz.ntmps50
  go_upto_region 1 with fail
  rw [HW0.out, HY.out]
  go_upto_region 2 with (go_at_call 39; refine HR.out.mono ?_; rintro e w1 ⟨gr, n, c, rfl, hn, hg1, hf1, hgo⟩; have HGO := Lib.hid hgo; have HG1 := Lib.hid hg1; have HF1 := Lib.hid hf1; have HN := Lib.hid hn; clear hg1 hf1 hn hgo)
  have hi : posK l k < (rowG z l k).length := rowG_len z l k
  obtain ⟨⟨pv0, x1, x2, hp0⟩, hfz, hgl⟩ := HG1.out.look hi
  have hrp := rowG_pos z l k
  have hl0 : Lok (rowG z l k)[posK l k].acc.parts := HWF.out _ (List.getElem_mem _)
  rw [hrp] at x1 hp0 hl0
  obtain ⟨a0, ha0⟩ : ∃ a, (atK l k).getD z = a := ⟨_, rfl⟩
  rw [ha0] at x1 hp0 hl0
  obtain ⟨p, hpp⟩ : ∃ p, posK l k = p := ⟨_, rfl⟩
  rw [hpp] at x1 x2
  obtain ⟨C0, cc0, rfl, -⟩ := hp0.form
  have f01 : Fr (fun j => j = g ∨ j = m ∨ rv.ownBlock = some j) w0 w1 := HF1.out
  have hbx : Blk w1 y 48 #[.int .i64 cnt, .slice B pn pc] := HB0.out.of (f01.block y HNE.out.2.2 (by
    have := HNE.out
    rintro (e | e | e)
    · exact this.1 e
    · exact this.2.1 e
    · exact HYO.out e))
  have hps1 : PR K2 w1 (.slice B pn pc) ps := HA.out.mono' fun j hj hlt => ⟨hj, f01.block j hlt (HAPB.out j hj)⟩
  have y0 := hbx.cell 0
  have y1 := hbx.cell 1
  have HM : Hid (∀ w', Fr No w1 w' → Calls Tryz.prog 79 #[.agg #[.int .i64 a0.count, .slice C0 a0.parts.length cc0], .agg #[.int .i64 cnt, .slice B pn pc]] w' (TellsA (mergeA a0 ⟨cnt, ps⟩) w')) := Lib.hid fun w' f' => merge_any _ _ _ _ _ _ w' (hp0.no f').1 hl0 (hps1.no f') HPS.out
  have HEND : Hid (∀ w2 w3 v3, Fr No w1 w2 → PO w2.heap.size w3 v3 (mergeA a0 ⟨cnt, ps⟩).parts → Fr No w2 w3 → TellsU b g m n0 z rv (updG mergeA z l k ⟨cnt, ps⟩) w (.returned (.tuple #[])) ((w3.setCell ⟨gr, p * 3 + 1, none⟩ (.int .i64 (mergeA a0 ⟨cnt, ps⟩).count)).setCell ⟨gr, p * 3 + 2, none⟩ v3)) := Lib.hid fun w2 w3 v3 f12 h3 f23 => by
    have f13 : Fr No w1 w3 := f12.trans f23 fun _ _ h => h
    obtain ⟨hs1, hs2⟩ := HG1.out.store hi (mergeA a0 ⟨cnt, ps⟩) f13 (h3.low f12.size)
    refine ⟨rfl, .slice (some ⟨gr, 0, none⟩) n c, ?_, ?_⟩
    · have e : updG mergeA z l k ⟨cnt, ps⟩ = setA (rowG z l k) (posK l k) (mergeA a0 ⟨cnt, ps⟩) := by unfold updG; rw [ha0]
      rw [e]
      rw [hpp] at hs1 ⊢
      exact hs1
    · rw [hpp] at hs2
      refine (HF0.out.any.trans f01 fun _ _ h => h).trans hs2 fun j hj e => ?_
      subst e
      rcases HGO.out with h | h
      · exact .inr (.inr h)
      · exact absurd hj (by have := HF0.out.size; omega)
  obtain ⟨q0, hq0⟩ : ∃ x, a0.parts.length = x := ⟨_, rfl⟩
  rw [hq0] at x2 HM
  obtain ⟨ac0, hac0⟩ : ∃ x, a0.count = x := ⟨_, rfl⟩
  rw [hac0] at x1 HM
  obtain ⟨am, ham⟩ : ∃ x, mergeA a0 ⟨cnt, ps⟩ = x := ⟨_, rfl⟩
  rw [ham] at HM HEND
  have z1 := hfz (p * 3 + 1)
  have z2 := hfz (p * 3 + 2)
  have hylt := hbx.lt
  rw [hpp]
  clear hrp hl0 ha0 hpp hp0 f01 hbx hps1 hq0 hac0 ham hfz hi
  have HU : Hid (∀ w', Fr No w1 w' → w'.cell? ⟨gr, p * 3 + 1, none⟩ = some (.int .i64 ac0) ∧ w'.cell? ⟨gr, p * 3 + 2, none⟩ = some (.slice C0 q0 cc0) ∧ w'.frozen? ⟨gr, p * 3 + 1, none⟩ = false ∧ w'.frozen? ⟨gr, p * 3 + 2, none⟩ = false) := Lib.hid fun w' f' => by
    have e := f'.block gr hgl id
    refine ⟨(cell_of_heap e).trans x1, (cell_of_heap e).trans x2, ?_, ?_⟩
    · simp only [World.frozen?] at z1 ⊢; rw [e]; exact z1
    · simp only [World.frozen?] at z2 ⊢; rw [e]; exact z2
  go_region_law (go_simp; go_at_call 79; refine (HM.out _ (Fr.refl No w1).drew).mono ?_; rintro e w3 ⟨v3, rfl, hpo, f3⟩; have f13 : Fr No w1 w3 := (Fr.refl No w1).drew.trans f3 fun _ _ h => h; obtain ⟨u1, u2, v1, v2⟩ := HU.out w3 f13; have HE3 := Lib.hid (HEND.out w1 w3 v3 (Fr.refl _ _) hpo f13); obtain ⟨V3, k3, rfl, -⟩ := hpo.pr.form; clear hpo f3 f13)
  all_goals (go_simp; go_wp2_with fail)
  all_goals go_end0
  all_goals exact HE3.out
end Go.Proofs.YtlpglijikmnopaaGreatDoor
