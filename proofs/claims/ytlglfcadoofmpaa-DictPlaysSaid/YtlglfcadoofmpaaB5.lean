/- What DictOrder keeps: the dictionary, the numbers, the texts, what was seen. -/
import Derived.Test.YtlglfcadoofmpaaB4
import Derived.Test.YtlglfcadoofmpaaP3
namespace Go.Proofs.Ytlglfcadoofmpaa
open Go.RowKit Go.Maps Go.Proofs
set_option linter.unusedVariables false

/-- The law's own blocks turn, and some are new. -/
theorem Dt.turn {w w' : World} {X Y : Nat → Prop} {d : Nat} {L : List Tx} (h : Dt w X d L) (hf : Fr X w w') (hY : ∀ k, Y k → X k ∨ (w.heap.size ≤ k ∧ k < w'.heap.size)) : Dt w' Y d L := by
  obtain ⟨S, R, e, hW, a, x⟩ := h.at_
  refine ⟨fun k hk => ?_, S, R, e, hW, a.fr hf fun k hk hF => x k hF hk, fun k hk hy => ?_⟩
  · rcases hY k hk with hx | hx
    · exact Nat.lt_of_lt_of_le (h.lo k hx) hf.size
    · exact hx.2
  · rcases hY k hy with hx | hx
    · exact x k hk hx
    · have := a.lt k hk; omega

/-- append(v, x), x laid in a new row. -/
theorem app_one {w : World} {base n : Nat} {v x z : Value} {t e bytes : Nat} {xs : List Value} (ht : Try.prog.underlying t = some (.slice e)) (hi : (Try.prog.info? e).map (fun i => (i.zero, i.size, i.bytes)) = some (some z, 1, bytes)) (hz : z.cells.size = 1) (hby : bytes ≤ 16)
    (ho : w.ownsRow base e 1 v n xs) (hb : base ≤ w.heap.size) (hx : x.oneCell' = true) (hn : n ≤ 1000000) :
    ∃ v' w', (∀ ty, (Builtin.append_ #[t, t] ty #[v, .slice (some ⟨w.heap.size, 0, none⟩) 1 1]).run Try.prog (w.alloc (.cells #[x] e)) = .ok v' w') ∧ w'.ownsRow base e 1 v' (n + 1) (xs ++ [x]) ∧
      Fr (fun k => v.ownBlock = some k) w w' ∧ ∀ k, v'.ownBlock = some k → v.ownBlock = some k ∨ (w.heap.size ≤ k ∧ k < w'.heap.size) := by
  obtain ⟨i0, hi0, hz0, hz1, hz2⟩ := info_parts hi
  obtain ⟨g, cap, w', hr, h2, h3, h4, h5⟩ := run_append_lies (P := Try.prog) (w.alloc (.cells #[x] e)) t 0 base e i0 z 1 bytes ht hi0 hz0 hz1 hz2 hz (by omega) v n xs (ho.alloc _) ⟨w.heap.size, 0, none⟩ 1 1 [x] (by rfl)
    (World.news_of_block (cs := #[x]) (t := e) (fr := (0, 0)) (heap_alloc_new w _)) (by simp [hx]) (by omega) (by unfold maxLen; omega) (by
      have : (n + 1) * bytes ≤ (n + 1) * 16 := Nat.mul_le_mul_left _ hby
      omega) (by simp; omega) (w.heap.size + 1) (by simp)
  refine ⟨_, w', fun ty => hr, h2, ((Fr.refl _ w).alloc _).grown h3 fun k hk _ => hk, fun k hk => ?_⟩
  have e1 : g = k := by simpa [Value.ownBlock] using hk
  subst e1
  exact h4.imp id fun e => ⟨by omega, h5⟩

structure OI (w0 : World) (B d : Nat) (L K : List Tx) (N : List Nat) (vn vk : Value) (w : World) : Prop where
  dt : Dt w (OwnX (OwnX (Bel B) vn) vk) d L
  bel : Below B w0 w ∧ B ≤ w.heap.size
  rn : w.ownsRow B 3 1 vn N.length (N.map encN)
  rk : w.ownsRow B 9 1 vk K.length (K.map encT)
section
variable {w0 w w' : World} {B d : Nat} {L L' K : List Tx} {N : List Nat} {vn vk : Value}
theorem OI.put (h : OI w0 B d L K N vn vk w) (h' : Dt w' (OwnX (OwnX (Bel B) vn) vk) d L') (f : Fr (NX (OwnX (OwnX (Bel B) vn) vk)) w w') : OI w0 B d L' K N vn vk w' :=
  ⟨h', belt2 h.bel (fun _ hk => .inl (.inl hk)) f, row_keep h.rn (fun k hk => .inl (.inr hk)) f, row_keep h.rk (fun k hk => .inr hk) f⟩
theorem OI.push_n (h : OI w0 B d L K N vn vk w) (n : Nat) (hl : N.length ≤ 1000000) :
    ∃ v' w', (∀ ty, (Builtin.append_ #[35, 35] ty #[vn, .slice (some ⟨w.heap.size, 0, none⟩) 1 1]).run Try.prog (w.alloc (.cells #[.int .i64 n] 3)) = .ok v' w') ∧ OI w0 B d L K (N ++ [n]) v' vk w' := by
  obtain ⟨v', w', hr, ho, f, hv⟩ := app_one (x := .int .i64 n) Try.underlying35 info3 rfl (by omega) h.rn h.bel.2 rfl hl
  refine ⟨v', w', hr, ⟨h.dt.turn (f.mono fun k _ hk => .inl (.inr hk)) fun k hk => ?_, belt2 (X := Bel B) h.bel (fun _ hk => hk) (f.mono fun k _ hk hx => by have := (h.rn.lt k hk).1; unfold Bel at hx; omega), by
    have e1 : (N ++ [n]).length = N.length + 1 := by simp
    have e2 : (N ++ [n]).map encN = N.map encN ++ [.int .i64 n] := by simp [encN]
    rw [e1, e2]; exact ho, own_of h.rk fun k hk => f.block k (h.rk.lt k hk).2 fun hn => own_own_ne h.rn hn h.rk hk (by decide) rfl⟩⟩
  rcases hk with (hk | hk) | hk
  · exact .inl (.inl (.inl hk))
  · exact (hv k hk).imp (fun h => .inl (.inr h)) id
  · exact .inl (.inr hk)
theorem OI.push_k (h : OI w0 B d L K N vn vk w) (t : Tx) (hl : K.length ≤ 1000000) :
    ∃ v' w', (∀ ty, (Builtin.append_ #[27, 27] ty #[vk, .slice (some ⟨w.heap.size, 0, none⟩) 1 1]).run Try.prog (w.alloc (.cells #[.string ⟨t.toArray⟩] 9)) = .ok v' w') ∧ OI w0 B d L (K ++ [t]) N vn v' w' := by
  obtain ⟨v', w', hr, ho, f, hv⟩ := app_one (x := .string ⟨t.toArray⟩) Try.underlying27 info9 rfl (by omega) h.rk h.bel.2 rfl hl
  refine ⟨v', w', hr, ⟨h.dt.turn (f.mono fun k _ hk => .inr hk) fun k hk => ?_, belt2 (X := Bel B) h.bel (fun _ hk => hk) (f.mono fun k _ hk hx => by have := (h.rk.lt k hk).1; unfold Bel at hx; omega),
    own_of h.rn fun k hk => f.block k (h.rn.lt k hk).2 fun hn => own_own_ne h.rk hn h.rn hk (by decide) rfl, by
    have e1 : (K ++ [t]).length = K.length + 1 := by simp
    have e2 : (K ++ [t]).map encT = K.map encT ++ [.string ⟨t.toArray⟩] := by simp [encT]
    rw [e1, e2]; exact ho⟩⟩
  rcases hk with (hk | hk) | hk
  · exact .inl (.inl (.inl hk))
  · exact .inl (.inl (.inr hk))
  · exact (hv k hk).imp (fun h => .inr h) id
end

structure OJ (w0 : World) (B d : Nat) (L K : List Tx) (N : List Nat) (s : List Bool) (vn vk vs : Value) (w : World) : Prop where
  dt : Dt w (OwnX (OwnX (OwnX (Bel B) vn) vk) vs) d L
  bel : Below B w0 w ∧ B ≤ w.heap.size
  rn : w.ownsRow B 3 1 vn N.length (N.map encN)
  rk : w.ownsRow B 9 1 vk K.length (K.map encT)
  rs : w.ownsRow B 4 1 vs s.length (s.map Value.bool)
section
variable {w0 w w' : World} {B d : Nat} {L K : List Tx} {N T : List Nat} {s : List Bool} {vn vk vs : Value}
theorem OJ.keep (h : OJ w0 B d L K N s vn vk vs w) (h' : Dt w' (OwnX (OwnX (OwnX (Bel B) vn) vk) vs) d L) (f : Fr (NX (OwnX (OwnX (OwnX (Bel B) vn) vk) vs)) w w') : OJ w0 B d L K N s vn vk vs w' :=
  ⟨h', belt2 h.bel (fun _ hk => .inl (.inl (.inl hk))) f, row_keep h.rn (fun k hk => .inl (.inl (.inr hk))) f, row_keep h.rk (fun k hk => .inl (.inr hk)) f, row_keep h.rs (fun k hk => .inr hk) f⟩
theorem OJ.set {gs c : Nat} (h : OJ w0 B d L K N s vn vk (.slice (some ⟨gs, 0, none⟩) s.length c) w) (k : Nat) (b : Bool) : OJ w0 B d L K N (s.set k b) vn vk (.slice (some ⟨gs, 0, none⟩) s.length c) (w.setCell ⟨gs, k, none⟩ (.bool b)) := by
  have f : Fr (One gs) w (w.setCell ⟨gs, k, none⟩ (.bool b)) := Fr.set0 gs w k _
  have hx : ∀ j, One gs j → OwnX (OwnX (OwnX (Bel B) vn) vk) (.slice (some ⟨gs, 0, none⟩) s.length c) j := fun j hj => .inr (by rw [show j = gs from hj]; rfl)
  refine ⟨h.dt.turn (f.mono fun j _ hj => hx j hj) fun j hj => .inl hj, belt2 (X := Bel B) h.bel (fun _ hk => hk) (f.mono fun j _ hj hb => by have := (h.rs.lt gs rfl).1; unfold Bel at hb; rw [show j = gs from hj] at hb; omega), own_of h.rn fun j hj => f.block j (h.rn.lt j hj).2 fun e => own_own_ne h.rs (rfl : Value.ownBlock (.slice (some ⟨gs, 0, none⟩) s.length c) = some gs) h.rn hj (by decide) (show j = gs from e).symm,
    own_of h.rk fun j hj => f.block j (h.rk.lt j hj).2 fun e => own_own_ne h.rs (rfl : Value.ownBlock (.slice (some ⟨gs, 0, none⟩) s.length c) = some gs) h.rk hj (by decide) (show j = gs from e).symm, ?_⟩
  have := (h.rs.stored k (.bool b)).1
  rw [List.length_set, List.map_set]
  exact this
theorem OJ.rank (h : OJ w0 B d L K N s vn vk vs w) (hT : Ord L T) (n : Nat) (hn : n < L.length) : Calls Try.prog 18 #[.pointer (some ⟨d, 0, none⟩), .int .i64 n] w fun e w' => ∃ k : Nat, e = .returned (.tuple #[.int .i64 k, .bool true]) ∧ T[k]? = some n ∧ OJ w0 B d L K N s vn vk vs w' :=
  (m_rank h.dt n hn).mono fun e w' ⟨T', k, he, hO, hk, h', f⟩ => by rw [hO.unique hT] at hk; exact ⟨k, he, hk, h.keep h' f⟩
theorem info4 : (Try.prog.info? 4).map (fun i => (i.zero, i.size, i.bytes)) = some (some (.bool false), 1, 1) := by kernel_rfl
/-- What was seen: nothing yet. -/
theorem OI.make (h : OI w0 B d L K N vn vk w) (m : Nat) (hm : m ≤ 4096) : OJ w0 B d L K N (List.replicate m false) vn vk (.slice (some ⟨w.heap.size, 0, none⟩) m m) (w.alloc (.cells (madeCells #[.bool false] m) 4)) := by
  have f : Fr No w (w.alloc (.cells (madeCells #[.bool false] m) 4)) := (Fr.refl No w).alloc _
  refine ⟨h.dt.turn f.any fun k hk => ?_, belt3 h.bel f, h.rn.alloc _, h.rk.alloc _, ?_⟩
  · rcases hk with hk | hk
    · exact .inl hk
    · have : w.heap.size = k := by simpa [Value.ownBlock] using hk
      subst this
      exact .inr ⟨Nat.le_refl _, by simp⟩
  · have hms : (madeCells #[Value.bool false] m).size = m := by rw [size_madeCells]
    refine ⟨by simp, .inr ⟨w.heap.size, m, madeCells #[.bool false] m, by rw [List.length_replicate], h.bel.2, heap_alloc_new w _, by simp, by unfold maxLen; omega, by omega, ?_⟩⟩
    rw [List.length_replicate, List.take_of_length_le (by rw [Array.length_toList, hms]; omega), toList_madeCells_one]; simp
end
end Go.Proofs.Ytlglfcadoofmpaa
