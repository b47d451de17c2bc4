/- A store beside other blocks X; a segment more; one number more in a column. -/
import Derived.Test.YtmaeejojmbibnaaF7
namespace Go.Proofs.Ytmaeejojmbibnaa
open Go.RowKit Go.Maps
set_option linter.unusedVariables false

def NX (X : Nat → Prop) : Nat → Prop := fun k => ¬ X k
/-- A store none of whose blocks is one of X. -/
structure SX (w : World) (X : Nat → Prop) (s : Nat) (Q : SRp) (S : FS) : Prop where
  lo : ∀ k, X k → k < w.heap.size
  at_ : SAt w s Q S
  off : ∀ k, sfoot s Q S k → ¬ X k
theorem SX.fr {w w' : World} {X : Nat → Prop} {s : Nat} {Q : SRp} {S : FS} (h : SX w X s Q S) (hf : Fr X w w') : SX w' X s Q S :=
  ⟨fun k hk => Nat.lt_of_lt_of_le (h.lo k hk) hf.size, h.at_.fr hf fun k hF hk => h.off k hk hF, h.off⟩
theorem SX.keep {w w' : World} {X : Nat → Prop} {s : Nat} {Q : SRp} {S : FS} (h : SX w X s Q S) (hf : Fr No w w') : SX w' X s Q S := h.fr hf.any
/-- More blocks of the law's own: new ones. -/
theorem SX.more {w w' : World} {X Y : Nat → Prop} {s : Nat} {Q : SRp} {S : FS} (h : SX w X s Q S) (hf : Fr No w w') (hY : ∀ k, Y k → X k ∨ (w.heap.size ≤ k ∧ k < w'.heap.size)) : SX w' Y s Q S :=
  ⟨fun k hk => (hY k hk).elim (fun hx => Nat.lt_of_lt_of_le (h.lo k hx) hf.size) (·.2), h.at_.keep hf, fun k hk hy => (hY k hy).elim (h.off k hk) fun hx => by have := h.at_.lt k hk; omega⟩
theorem SX.less {w : World} {X Y : Nat → Prop} {s : Nat} {Q : SRp} {S : FS} (h : SX w X s Q S) (hY : ∀ k, Y k → X k) : SX w Y s Q S := ⟨fun k hk => h.lo k (hY k hk), h.at_, fun k hk hy => h.off k hk (hY k hy)⟩
theorem SX.post {w w' : World} {X : Nat → Prop} {s : Nat} {Q : SRp} {S S' : FS} (h : SX w X s Q S) (p : SPost s Q S w S' w') : (∃ Q', SX w' X s Q' S') ∧ Fr (NX X) w w' := by
  obtain ⟨Q', a, f, g⟩ := p
  refine ⟨⟨Q', fun k hk => Nat.lt_of_lt_of_le (h.lo k hk) f.size, a, fun k hk hx => ?_⟩, f.mono fun k _ hk => h.off k hk⟩
  rcases g k hk with hk | hk
  · exact h.off k hk hx
  · have := h.lo k hx; omega
theorem Facts.nx {X : Nat → Prop} {w w' : World} {v : Value} {l : List FactP} (h : Facts X w v l) (hf : Fr (NX X) w w') : Facts X w' v l := Facts.fr h hf fun k hk => hk
theorem RowE.nx {α : Type} {X : Nat → Prop} {w w' : World} {size : Nat} {E : α → List Value → Prop} {v : Value} {l : List α} (h : RowE X w size E v l) (hf : Fr (NX X) w w') : RowE X w' size E v l :=
  h.of hf.size (fun k hk hlt => ⟨hk, hf.block k hlt fun hx => hx hk⟩) fun _ _ _ h => h
theorem RowE.more {α : Type} {X Y : Nat → Prop} {w : World} {size : Nat} {E : α → List Value → Prop} {v : Value} {l : List α} (h : RowE X w size E v l) (hY : ∀ k, X k → Y k) : RowE Y w size E v l :=
  h.of (Nat.le_refl _) (fun k hk _ => ⟨hY k hk, rfl⟩) fun _ _ _ h => h

/-! ### a segment more -/
theorem info83 : (Try.prog.info? 83).map (fun i => (i.zero, i.size, i.bytes)) = some (some (.agg (Array.replicate 256 (.int .u16 0))), 256, 512) := by kernel_rfl
theorem info106 : (Try.prog.info? 106).map (fun i => (i.zero, i.size, i.bytes)) = some (some (.agg (Array.replicate 256 (.int .i64 0))), 256, 2048) := by kernel_rfl
theorem info74 : (Try.prog.info? 74).map (fun i => (i.zero, i.size, i.bytes)) = some (some (.agg #[.slice none 0 0, .slice none 0 0]), 2, 48) := by kernel_rfl
def zcol (z : Value) (n : Nat) : Array Value := madeCells (Array.replicate 256 z) (n * 256)
theorem zcol_col {w : World} {g : Nat} {t : TypeId} {n : Nat} {z : Value} {c : Nat → Nat → Value} (h : Blk w g t (zcol z n)) (hc : ∀ d j, d < n → j < 256 → c d j = z) : Col w g t n c := by
  refine ⟨_, h, size_madeCells _ _, fun d j hd hj => ?_⟩
  have hlt : d * 256 + j < n * 256 := by omega
  rw [hc d j hd hj]
  unfold zcol madeCells
  rw [Array.getElem?_map, Array.getElem?_range, if_pos hlt]
  show some ((Array.replicate 256 z)[(d * 256 + j) % (Array.replicate 256 z).size]!) = some z
  rw [Array.size_replicate, getElem!_pos (Array.replicate 256 z) _ (by rw [Array.size_replicate]; omega), Array.getElem_replicate]
theorem make83 (K : Nat) (hK : K ≤ 6) (w : World) : (Instr.makeSlice 71 (.int .i64 K) (.int .i64 K)).run Try.prog w = .ok (.slice (some ⟨w.heap.size, 0, none⟩) K K) (w.alloc (.cells (zcol (.int .u16 0) K) 83)) := by
  obtain ⟨i, hi, hz0, hz1, hz2⟩ := info_parts info83
  have h := run_make (P := Try.prog) w 71 83 i _ Try.underlying71 hi hz0 .i64 .i64 (K : Int) (K : Int) (by omega) (Int.le_refl _) (by rw [hz2]; omega) (by omega)
  rw [Int.toNat_natCast, hz1] at h
  exact h
theorem make106 (M : Nat) (hM : M ≤ 6) (w : World) : (Instr.makeSlice 72 (.int .i64 M) (.int .i64 M)).run Try.prog w = .ok (.slice (some ⟨w.heap.size, 0, none⟩) M M) (w.alloc (.cells (zcol (.int .i64 0) M) 106)) := by
  obtain ⟨i, hi, hz0, hz1, hz2⟩ := info_parts info106
  have h := run_make (P := Try.prog) w 72 106 i _ Try.underlying72 hi hz0 .i64 .i64 (M : Int) (M : Int) (by omega) (Int.le_refl _) (by rw [hz2]; omega) (by omega)
  rw [Int.toNat_natCast, hz1] at h
  exact h

theorem seg_end {w wx w3 : World} {s a b g cap : Nat} {Q : SRp} {S : FS} (h : SAt w s Q S) (hz : ∀ d p, S.G * 256 ≤ p → S.cn d p = 0) (hz' : ∀ m p, S.G * 256 ≤ p → S.mn m p = 0) (fx : Fr No w wx)
    (ha : Blk wx a 83 (zcol (.int .u16 0) S.K)) (hb : Blk wx b 106 (zcol (.int .i64 0) S.M)) (ha0 : w.heap.size ≤ a) (hb0 : w.heap.size ≤ b) (hg : wx.grownBy w3 Q.gv.ownBlock)
    (ho3 : w3.ownsRow 0 74 2 (.slice (some ⟨g, 0, none⟩) (S.G + 1) cap) (S.G + 1) (segl Q S ++ [.slice (some ⟨a, 0, none⟩) S.K S.K, .slice (some ⟨b, 0, none⟩) S.M S.M])) (hat : Q.gv.ownBlock = some g ∨ g = wx.heap.size) :
    SPost s Q S w S.seg (w3.setCell ⟨s, 2, none⟩ (.slice (some ⟨g, 0, none⟩) (S.G + 1) cap)) := by
  obtain ⟨wf, hwf⟩ : ∃ wf, w3.setCell ⟨s, 2, none⟩ (.slice (some ⟨g, 0, none⟩) (S.G + 1) cap) = wf := ⟨_, rfl⟩
  rw [hwf]
  have f3 : Fr (fun k => Q.gv.ownBlock = some k) w w3 := (fx.any).grown hg fun k hk _ => hk
  have hs := h.blk.lt
  have hgs : Q.gv.ownBlock ≠ some s := fun e => own_blk_ne h.segs e h.blk (by decide) rfl
  have hB3 : Blk w3 s 60 (scells Q S) := h.blk.of (f3.block s hs hgs)
  have hgs3 : g ≠ s := own_blk_ne ho3 rfl hB3 (by decide)
  have f4 : Fr (One s) w3 wf := by rw [← hwf]; exact Fr.set0 s w3 2 _
  have f5 : Fr (fun k => k = s ∨ Q.gv.ownBlock = some k) w wf := (f3.mono fun k _ hk => .inr hk).trans f4 fun k _ hk => .inl hk
  have hxw3 : ∀ k, k < wx.heap.size → Q.gv.ownBlock ≠ some k → k ≠ s → wf.heap[k]? = wx.heap[k]? := fun k hk h1 h2 =>
    (f4.block k (Nat.lt_of_lt_of_le hk hg.size) h2).trans (hg.block k hk fun e => h1 e.symm)
  have hgl : ∀ k, Q.gv.ownBlock = some k → k < w.heap.size := fun k hk => (h.segs.lt k hk).2
  have keep : ∀ k, k < w.heap.size → k ≠ s → Q.gv.ownBlock ≠ some k → wf.heap[k]? = w.heap[k]? := fun k hk h1 h2 => f5.block k hk (by rintro (e | e); exact h1 e; exact h2 e)
  have hda : ∀ d, d < S.K → ∀ k, foot (Q.ds d) (Q.rp d) k → k ≠ s ∧ Q.gv.ownBlock ≠ some k := fun d hd k hk => ⟨(h.apart hd hk).1, (h.apart hd hk).2.2.1⟩
  refine ⟨{ Q with gv := .slice (some ⟨g, 0, none⟩) (S.G + 1) cap, sa := fun i => if i = S.G then a else Q.sa i, sb := fun i => if i = S.G then b else Q.sb i }, {
    blk := ?_
    dicts := own_of h.dicts fun k hk => keep k (h.dicts.lt k hk).2 (own_blk_ne h.dicts hk h.blk (by decide)) (fun e => own_own_ne h.dicts hk h.segs e (by decide) rfl)
    dict := fun d hd => (h.dict d hd).of fun k hk => keep k ((h.dict d hd).lt k hk) (hda d hd k hk).1 (hda d hd k hk).2
    dap := h.dap
    segs := ?_
    sega := fun i hi => ?_
    segb := fun i hi => ?_
    saa := fun i j hi hj hne => ?_
    sbb := fun i j hi hj hne => ?_
    ends := own_of h.ends fun k hk => keep k (h.ends.lt k hk).2 (own_blk_ne h.ends hk h.blk (by decide)) (fun e => own_own_ne h.ends hk h.segs e (by decide) rfl)
    eap := h.eap }, f5.mono fun k _ hk => ?_, fun k hk => ?_⟩
  · rw [← hwf]
    have := hB3.set_ 2 (.slice (some ⟨g, 0, none⟩) (S.G + 1) cap)
    exact this
  · show wf.ownsRow 0 74 2 (.slice (some ⟨g, 0, none⟩) (S.G + 1) cap) (S.G + 1) ((List.range (S.G + 1)).flatMap _)
    rw [List.range_succ, List.flatMap_append]
    have e1 : (List.range S.G).flatMap (segv { Q with gv := .slice (some ⟨g, 0, none⟩) (S.G + 1) cap, sa := fun i => if i = S.G then a else Q.sa i, sb := fun i => if i = S.G then b else Q.sb i } S.seg) = segl Q S := by
      unfold segl
      rw [List.flatMap_def, List.flatMap_def]
      congr 1
      refine List.map_congr_left fun i hi => ?_
      have hi' : i < S.G := by simpa using hi
      unfold segv
      simp only [FS.seg, if_neg (show i ≠ S.G by omega)]
    rw [e1]
    have e2 : [S.G].flatMap (segv { Q with gv := .slice (some ⟨g, 0, none⟩) (S.G + 1) cap, sa := fun i => if i = S.G then a else Q.sa i, sb := fun i => if i = S.G then b else Q.sb i } S.seg) = [.slice (some ⟨a, 0, none⟩) S.K S.K, .slice (some ⟨b, 0, none⟩) S.M S.M] := by
      simp [segv, FS.seg]
    rw [e2]
    exact own_of ho3 fun k hk => by
      have : g = k := by simpa [Value.ownBlock] using hk
      subst this
      exact f4.block _ (ho3.lt g rfl).2 hgs3
  · have hi' : i < S.G + 1 := hi
    by_cases e : i = S.G
    · subst e
      simp only [if_true]
      refine zcol_col (ha.of (hxw3 a ha.lt (fun e => by have := hgl a e; omega) (by omega))) fun d j hd hj => ?_
      show Value.int .u16 (S.cn d (S.G * 256 + j)) = _
      rw [hz d _ (by omega)]; rfl
    · simp only [if_neg e]
      have hc := h.sega i (by omega)
      refine hc.of (keep _ hc.lt (hc.ne_ h.blk (by decide)) fun e1 => ?_)
      obtain ⟨cur, hcc⟩ := own_row h.segs e1
      exact hc.ne_ (cs := cur) (t' := 74) hcc (by decide) rfl
  · have hi' : i < S.G + 1 := hi
    by_cases e : i = S.G
    · subst e
      simp only [if_true]
      refine zcol_col (hb.of (hxw3 b hb.lt (fun e => by have := hgl b e; omega) (by omega))) fun d j hd hj => ?_
      show Value.int .i64 (S.mn d (S.G * 256 + j)) = _
      rw [hz' d _ (by omega)]
    · simp only [if_neg e]
      have hc := h.segb i (by omega)
      refine hc.of (keep _ hc.lt (hc.ne_ h.blk (by decide)) fun e1 => ?_)
      obtain ⟨cur, hcc⟩ := own_row h.segs e1
      exact hc.ne_ (cs := cur) (t' := 74) hcc (by decide) rfl
  · have hi' : i < S.G + 1 := hi
    have hj' : j < S.G + 1 := hj
    show (if i = S.G then a else Q.sa i) ≠ (if j = S.G then a else Q.sa j)
    by_cases e : i = S.G
    · rw [if_pos e, if_neg (by omega)]
      have := (h.sega j (by omega)).lt; omega
    · rw [if_neg e]
      by_cases e2 : j = S.G
      · rw [if_pos e2]
        have := (h.sega i (by omega)).lt; omega
      · rw [if_neg e2]; exact h.saa i j (by omega) (by omega) hne
  · have hi' : i < S.G + 1 := hi
    have hj' : j < S.G + 1 := hj
    show (if i = S.G then b else Q.sb i) ≠ (if j = S.G then b else Q.sb j)
    by_cases e : i = S.G
    · rw [if_pos e, if_neg (by omega)]
      have := (h.segb j (by omega)).lt; omega
    · rw [if_neg e]
      by_cases e2 : j = S.G
      · rw [if_pos e2]
        have := (h.segb i (by omega)).lt; omega
      · rw [if_neg e2]; exact h.sbb i j (by omega) (by omega) hne
  · rcases hk with hk | hk
    · exact .inl hk
    · exact .inr (.inr (.inl hk))
  · rcases hk with hk | hk | hk | hk | ⟨i, hi, hk⟩ | hk
    · exact .inl (.inl hk)
    · exact .inl (.inr (.inl hk))
    · have e : g = k := by simpa [Value.ownBlock] using hk
      subst e
      rcases hat with hat | hat
      · exact .inl (.inr (.inr (.inl hat)))
      · exact .inr (by have := fx.size; omega)
    · exact .inl (.inr (.inr (.inr (.inl hk))))
    · have hi' : i < S.G + 1 := hi
      by_cases e : i = S.G
      · simp only [if_pos e] at hk
        rcases hk with hk | hk
        · exact .inr (by omega)
        · exact .inr (by omega)
      · simp only [if_neg e] at hk
        exact .inl (.inr (.inr (.inr (.inr (.inl ⟨i, by omega, hk⟩)))))
    · exact .inl (.inr (.inr (.inr (.inr (.inr hk)))))
end Go.Proofs.Ytmaeejojmbibnaa
