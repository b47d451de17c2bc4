/- The store of facts in memory: one block, three rows, dictionaries, segments of columns. -/
import Derived.Test.YtmaeejojmbibnaaDA7
import Derived.Test.YtmaeejojmbibnaaF1
import Derived.Deep.MidRow
import Derived.Deep.WholeRow
namespace Go.Proofs.Ytmaeejojmbibnaa
open Go.RowKit Go.Maps
set_option linter.unusedVariables false

def DS.of (L : List Tx) : DS := ⟨L, [], [], false, 0⟩
theorem DS.of_add (L : List Tx) (t : Tx) : (DS.of L).add t = DS.of (L ++ [t]) := rfl
theorem WF.of_ {L : List Tx} (h1 : L.Nodup) (h2 : L.length ≤ 4096) (h3 : ∀ t ∈ L, t.length ≤ 64) : WF (.of L) :=
  ⟨h1, h2, h3, by simp [DS.of], Nat.zero_le _, by simp [DS.of], by simp [DS.of], rfl⟩

/-- Where a store lies. -/
structure SRp where
  dv : Value
  gv : Value
  ev : Value
  ds : Nat → Nat
  rp : Nat → Rp
  sa : Nat → Nat
  sb : Nat → Nat
def scells (Q : SRp) (S : FS) : Array Value := #[Q.dv, .int .i64 S.M, Q.gv, Q.ev]
def ptrs (Q : SRp) (K : Nat) : List Value := (List.range K).map fun d => Value.pointer (some ⟨Q.ds d, 0, none⟩)
def segv (Q : SRp) (S : FS) (g : Nat) : List Value := [.slice (some ⟨Q.sa g, 0, none⟩) S.K S.K, .slice (some ⟨Q.sb g, 0, none⟩) S.M S.M]
def segl (Q : SRp) (S : FS) : List Value := (List.range S.G).flatMap (segv Q S)
/-- A block of n columns of 256 cells. -/
def Col (w : World) (g : Nat) (t : TypeId) (n : Nat) (c : Nat → Nat → Value) : Prop := ∃ cs, Blk w g t cs ∧ cs.size = n * 256 ∧ ∀ d j, d < n → j < 256 → cs[d * 256 + j]? = some (c d j)
def dcol (S : FS) (g : Nat) (d j : Nat) : Value := .int .u16 (S.cn d (g * 256 + j))
def mcol (S : FS) (g : Nat) (m j : Nat) : Value := .int .i64 (S.mn m (g * 256 + j))

structure SAt (w : World) (s : Nat) (Q : SRp) (S : FS) : Prop where
  blk : Blk w s 60 (scells Q S)
  dicts : w.ownsRow 0 65 1 Q.dv S.K (ptrs Q S.K)
  dict : ∀ d, d < S.K → At w (Q.ds d) (Q.rp d) (.of (S.D d))
  dap : ∀ d e, d < S.K → e < S.K → d ≠ e → ∀ k, foot (Q.ds d) (Q.rp d) k → ¬ foot (Q.ds e) (Q.rp e) k
  segs : w.ownsRow 0 74 2 Q.gv S.G (segl Q S)
  sega : ∀ g, g < S.G → Col w (Q.sa g) 83 S.K (dcol S g)
  segb : ∀ g, g < S.G → Col w (Q.sb g) 106 S.M (mcol S g)
  saa : ∀ g h, g < S.G → h < S.G → g ≠ h → Q.sa g ≠ Q.sa h
  sbb : ∀ g h, g < S.G → h < S.G → g ≠ h → Q.sb g ≠ Q.sb h
  ends : w.ownsRow 0 3 1 Q.ev S.E.length (S.E.map encN)
  eap : ∀ d, d < S.K → ∀ k, Q.ev.ownBlock = some k → ¬ foot (Q.ds d) (Q.rp d) k

/-- The blocks that are the store's. -/
def sfoot (s : Nat) (Q : SRp) (S : FS) (k : Nat) : Prop := k = s ∨ Q.dv.ownBlock = some k ∨ Q.gv.ownBlock = some k ∨ Q.ev.ownBlock = some k ∨ (∃ g, g < S.G ∧ (Q.sa g = k ∨ Q.sb g = k)) ∨ ∃ d, d < S.K ∧ foot (Q.ds d) (Q.rp d) k

theorem Col.of {w w' : World} {g : Nat} {t : TypeId} {n : Nat} {c : Nat → Nat → Value} (h : Col w g t n c) (hk : w'.heap[g]? = w.heap[g]?) : Col w' g t n c := by
  obtain ⟨cs, h1, h2, h3⟩ := h
  exact ⟨cs, h1.of hk, h2, h3⟩
theorem Col.lt {w : World} {g : Nat} {t : TypeId} {n : Nat} {c : Nat → Nat → Value} (h : Col w g t n c) : g < w.heap.size := by
  obtain ⟨cs, h1, _⟩ := h
  exact h1.lt
theorem Col.cell {w : World} {g : Nat} {t : TypeId} {n : Nat} {c : Nat → Nat → Value} (h : Col w g t n c) {d j : Nat} (hd : d < n) (hj : j < 256) : w.cell? ⟨g, d * 256 + j, none⟩ = some (c d j) ∧ w.frozen? ⟨g, d * 256 + j, none⟩ = false := by
  obtain ⟨cs, h1, h2, h3⟩ := h
  exact ⟨(h1.cell _).trans (h3 d j hd hj), h1.frozen _⟩
theorem Col.range {w : World} {g : Nat} {t : TypeId} {n : Nat} {c : Nat → Nat → Value} (h : Col w g t n c) {d : Nat} (hd : d < n) : w.rangeAt g (d * 256) ((List.range 256).map (c d)) := by
  intro j v hv
  have hj : j < 256 := by
    rcases Nat.lt_or_ge j 256 with h1 | h1
    · exact h1
    · rw [List.getElem?_eq_none (by simpa using h1)] at hv; cases hv
  rw [List.getElem?_map, List.getElem?_range hj] at hv
  injection hv with hv
  rw [← hv]
  exact (h.cell hd hj).1

theorem SAt.of {w w' : World} {s : Nat} {Q : SRp} {S : FS} (h : SAt w s Q S) (hk : ∀ k, sfoot s Q S k → w'.heap[k]? = w.heap[k]?) : SAt w' s Q S where
  blk := h.blk.of (hk _ (.inl rfl))
  dicts := own_of h.dicts fun b hb => hk _ (.inr (.inl hb))
  dict := fun d hd => (h.dict d hd).of fun k hf => hk _ (.inr (.inr (.inr (.inr (.inr ⟨d, hd, hf⟩)))))
  dap := h.dap
  segs := own_of h.segs fun b hb => hk _ (.inr (.inr (.inl hb)))
  sega := fun g hg => (h.sega g hg).of (hk _ (.inr (.inr (.inr (.inr (.inl ⟨g, hg, .inl rfl⟩))))))
  segb := fun g hg => (h.segb g hg).of (hk _ (.inr (.inr (.inr (.inr (.inl ⟨g, hg, .inr rfl⟩))))))
  saa := h.saa
  sbb := h.sbb
  ends := own_of h.ends fun b hb => hk _ (.inr (.inr (.inr (.inl hb))))
  eap := h.eap
theorem SAt.lt {w : World} {s : Nat} {Q : SRp} {S : FS} (h : SAt w s Q S) : ∀ k, sfoot s Q S k → k < w.heap.size := by
  rintro k (rfl | hk | hk | hk | ⟨g, hg, rfl | rfl⟩ | ⟨d, hd, hk⟩)
  · exact h.blk.lt
  · exact (h.dicts.lt k hk).2
  · exact (h.segs.lt k hk).2
  · exact (h.ends.lt k hk).2
  · exact (h.sega g hg).lt
  · exact (h.segb g hg).lt
  · exact (h.dict d hd).lt k hk
theorem SAt.fr {w w' : World} {s : Nat} {Q : SRp} {S : FS} (h : SAt w s Q S) {F : Nat → Prop} (hf : Fr F w w') (hd : ∀ k, F k → ¬ sfoot s Q S k) : SAt w' s Q S :=
  h.of fun k hk => hf.block k (h.lt k hk) fun hF => hd k hF hk
theorem SAt.keep {w w' : World} {s : Nat} {Q : SRp} {S : FS} (h : SAt w s Q S) (hf : Fr No w w') : SAt w' s Q S := h.fr hf fun _ hF => hF.elim
theorem SAt.below {w w' : World} {s : Nat} {Q : SRp} {S : FS} (h : SAt w s Q S) (hb : Below w.heap.size w w') : SAt w' s Q S := h.keep (Fr.of_below hb)

/-- What kind of block a dictionary's are. -/
theorem At.kind {w : World} {d : Nat} {R : Rp} {S : DS} (h : At w d R S) {k : Nat} (hk : foot d R k) {t : TypeId} {cs : Array Value} (hb : Blk w k t cs) : t = 101 ∨ t = 9 ∨ t = 3 := by
  have key : ∀ {t' : TypeId} {cs' : Array Value}, Blk w k t' cs' → t = t' := fun hb' => by
    unfold Blk at hb hb'
    rw [hb] at hb'
    injection hb' with hb'
    injection hb' with _ ht
  rcases hk with rfl | hk | hk | hk | hk
  · exact .inl (key h.blk)
  · exfalso
    have hm := h.names
    rw [hk] at hm
    obtain ⟨es, c, he⟩ := owns_map (b := k) hm
    exact map_ne_blk he hb rfl
  · obtain ⟨cur, hc⟩ := own_row h.texts hk; exact .inr (.inl (key hc))
  · obtain ⟨cur, hc⟩ := own_row h.sorted hk; exact .inr (.inr (key hc))
  · obtain ⟨cur, hc⟩ := own_row h.ranks hk; exact .inr (.inr (key hc))
theorem Col.ne_ {w : World} {g g' : Nat} {t t' : TypeId} {n : Nat} {c : Nat → Nat → Value} {cs : Array Value} (h : Col w g t n c) (h' : Blk w g' t' cs) (hne : t ≠ t') : g ≠ g' := by
  obtain ⟨x, h1, _⟩ := h
  exact Blk.ne_ h1 h' hne

/-- A dictionary's blocks are none of the others. -/
theorem SAt.apart {w : World} {s : Nat} {Q : SRp} {S : FS} (h : SAt w s Q S) {d : Nat} (hd : d < S.K) {k : Nat} (hk : foot (Q.ds d) (Q.rp d) k) :
    k ≠ s ∧ Q.dv.ownBlock ≠ some k ∧ Q.gv.ownBlock ≠ some k ∧ Q.ev.ownBlock ≠ some k ∧ ∀ g, g < S.G → Q.sa g ≠ k ∧ Q.sb g ≠ k := by
  have kd := fun {t : TypeId} {cs : Array Value} => (h.dict d hd).kind hk (t := t) (cs := cs)
  refine ⟨?_, fun e => ?_, fun e => ?_, fun e => h.eap d hd k e hk, fun g hg => ⟨?_, ?_⟩⟩
  · rintro rfl
    have := kd h.blk; revert this; decide
  · obtain ⟨cur, hc⟩ := own_row h.dicts e
    have := kd hc; revert this; decide
  · obtain ⟨cur, hc⟩ := own_row h.segs e
    have := kd hc; revert this; decide
  · rintro rfl
    obtain ⟨x, h1, _⟩ := h.sega g hg
    have := kd h1; revert this; decide
  · rintro rfl
    obtain ⟨x, h1, _⟩ := h.segb g hg
    have := kd h1; revert this; decide

/-- What a call leaves. -/
def SPost (s : Nat) (Q : SRp) (S : FS) (w : World) (S' : FS) (w' : World) : Prop := ∃ Q', SAt w' s Q' S' ∧ Fr (sfoot s Q S) w w' ∧ ∀ k, sfoot s Q' S' k → sfoot s Q S k ∨ w.heap.size ≤ k
theorem SPost.refl {w : World} {s : Nat} {Q : SRp} {S : FS} (h : SAt w s Q S) : SPost s Q S w S w := ⟨Q, h, Fr.refl _ _, fun _ hk => .inl hk⟩
theorem SPost.keep {w w' : World} {s : Nat} {Q : SRp} {S : FS} (h : SAt w s Q S) (hf : Fr No w w') : SPost s Q S w S w' := ⟨Q, h.keep hf, hf.any, fun _ hk => .inl hk⟩

theorem SAt.cells {w : World} {s : Nat} {Q : SRp} {S : FS} (h : SAt w s Q S) : w.cell? ⟨s, 0, none⟩ = some Q.dv ∧ w.cell? ⟨s, 1, none⟩ = some (.int .i64 S.M) ∧ w.cell? ⟨s, 2, none⟩ = some Q.gv ∧ w.cell? ⟨s, 3, none⟩ = some Q.ev :=
  ⟨h.blk.cell 0, h.blk.cell 1, h.blk.cell 2, h.blk.cell 3⟩
theorem SAt.ptr {w : World} {s : Nat} {Q : SRp} {S : FS} (h : SAt w s Q S) {d : Nat} (hd : d < S.K) : ∃ g c, Q.dv = .slice (some ⟨g, 0, none⟩) S.K c ∧ w.cell? ⟨g, d, none⟩ = some (.pointer (some ⟨Q.ds d, 0, none⟩)) := by
  obtain ⟨g, c, h1, h2, h3⟩ := own_cells h.dicts (by omega)
  refine ⟨g, c, h1, (h3 d hd).1.trans ?_⟩
  simp [ptrs, hd]
theorem SAt.dform {w : World} {s : Nat} {Q : SRp} {S : FS} (h : SAt w s Q S) : ∃ A c, Q.dv = .slice A S.K c := own_form h.dicts
theorem SAt.end_ {w : World} {s : Nat} {Q : SRp} {S : FS} (h : SAt w s Q S) {i n : Nat} (hn : S.E[i]? = some n) : ∃ g c, Q.ev = .slice (some ⟨g, 0, none⟩) S.E.length c ∧ w.cell? ⟨g, i, none⟩ = some (.int .i64 n) := by
  have hi : i < S.E.length := (List.getElem?_eq_some_iff.1 hn).1
  obtain ⟨g, c, h1, h2, h3⟩ := own_cells h.ends (by omega)
  refine ⟨g, c, h1, (h3 i hi).1.trans ?_⟩
  rw [List.getElem?_map, hn]; rfl
theorem segl_at (Q : SRp) (S : FS) : ∀ G g, g < G → ∀ i, i < 2 → ((List.range G).flatMap (segv Q S))[g * 2 + i]? = (segv Q S g)[i]? := by
  intro G
  induction G with
  | zero => intro g hg; omega
  | succ G ih =>
    intro g hg i hi
    have hlen : ((List.range G).flatMap (segv Q S)).length = G * 2 := by
      have : ∀ m, ((List.range m).flatMap (segv Q S)).length = m * 2 := by
        intro m
        induction m with
        | zero => rfl
        | succ m ihm => rw [List.range_succ, List.flatMap_append, List.length_append, ihm]; simp [segv]; omega
      exact this G
    rw [List.range_succ, List.flatMap_append]
    by_cases h : g < G
    · rw [List.getElem?_append_left (by omega)]; exact ih g h i hi
    · obtain rfl : g = G := by omega
      rw [List.getElem?_append_right (by omega), hlen, Nat.add_sub_cancel_left]
      simp
theorem SAt.seg {w : World} {s : Nat} {Q : SRp} {S : FS} (h : SAt w s Q S) {g : Nat} (hg : g < S.G) : ∃ b c, Q.gv = .slice (some ⟨b, 0, none⟩) S.G c ∧ w.cell? ⟨b, g * 2, none⟩ = some (.slice (some ⟨Q.sa g, 0, none⟩) S.K S.K) ∧ w.cell? ⟨b, g * 2 + 1, none⟩ = some (.slice (some ⟨Q.sb g, 0, none⟩) S.M S.M) := by
  obtain ⟨b, c, h1, _, h2⟩ := h.segs.form (by omega)
  have hl : (segl Q S).length = S.G * 2 := h.segs.1
  refine ⟨b, c, h1, ?_, ?_⟩
  · have := h.segs
    rw [h1] at this
    exact (this.cellAt (g * 2) (by omega)).trans (segl_at Q S S.G g hg 0 (by omega))
  · have := h.segs
    rw [h1] at this
    exact (this.cellAt (g * 2 + 1) (by omega)).trans (segl_at Q S S.G g hg 1 (by omega))
end Go.Proofs.Ytmaeejojmbibnaa
