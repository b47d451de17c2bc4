/- The document's own net, as it lies in memory: of the same state. -/
import Derived.Test.YthcpdeffgdaieaaC1
namespace Go.Proofs.Ythcpdeffgdaieaa
open Go.RowKit Go.Maps
set_option linter.unusedVariables false

def LK.wayL (K : LK) (s : Bool) : List UInt8 := (K.way s).bytes.drop (K.way s).arr
def LK.thereL (K : LK) (s : Bool) : List UInt8 := (K.way s).bytes.take (K.way s).arr
def strV (l : List UInt8) : Value := .string ⟨l.toArray⟩
/-- A connection's cells, and which sides have shut. -/
def refCells (n : Int) (K : LK) (sh : Bool → Bool) : Array Value :=
  #[.int .i64 n, strV (K.wayL false), strV (K.wayL true), strV (K.thereL false), strV (K.thereL true), .bool (sh false), .bool (sh true), .bool (K.cut && K.told false), .bool (K.cut && K.told true), .bool K.cut]
def ShOk (K : LK) (sh : Bool → Bool) : Prop := K.cut = false → ∀ s, sh s = (K.way (!s)).shut

structure Rq where
  lv : Value
  rg : Int → Nat
def ptrV (g : Nat) : Value := .pointer (some ⟨g, 0, none⟩)

structure RAt (w : World) (r : Nat) (Q : Rq) (S : NS) : Prop where
  blk : Blk w r 29 #[.int .i64 S.last, Q.lv]
  row : w.ownsRow 0 39 1 Q.lv S.keys.length (S.keys.map fun n => ptrV (Q.rg n))
  con : ∀ n ∈ S.keys, ∃ K sh, S.link n = some K ∧ Blk w (Q.rg n) 38 (refCells n K sh) ∧ ShOk K sh
  ap : ∀ n ∈ S.keys, ∀ m ∈ S.keys, n ≠ m → Q.rg n ≠ Q.rg m

def footR (r : Nat) (Q : Rq) (S : NS) (k : Nat) : Prop := k = r ∨ Q.lv.ownBlock = some k ∨ ∃ n ∈ S.keys, k = Q.rg n

theorem RAt.of {w w' : World} {r : Nat} {Q : Rq} {S : NS} (h : RAt w r Q S) (hk : ∀ k, footR r Q S k → w'.heap[k]? = w.heap[k]?) : RAt w' r Q S where
  blk := h.blk.of (hk _ (.inl rfl))
  row := own_of h.row fun k hb => hk k (.inr (.inl hb))
  con n hn := by
    obtain ⟨K, sh, h1, h2, h3⟩ := h.con n hn
    exact ⟨K, sh, h1, h2.of (hk _ (.inr (.inr ⟨n, hn, rfl⟩))), h3⟩
  ap := h.ap
theorem RAt.lt {w : World} {r : Nat} {Q : Rq} {S : NS} (h : RAt w r Q S) : ∀ k, footR r Q S k → k < w.heap.size := by
  intro k hk
  rcases hk with rfl | hk | ⟨n, hn, rfl⟩
  · exact h.blk.lt
  · exact (h.row.lt k hk).2
  · obtain ⟨K, sh, _, h2, _⟩ := h.con n hn; exact h2.lt
theorem RAt.fr {w w' : World} {r : Nat} {Q : Rq} {S : NS} (h : RAt w r Q S) {F : Nat → Prop} (hf : Fr F w w') (hd : ∀ k, F k → ¬ footR r Q S k) : RAt w' r Q S :=
  h.of fun k hk => hf.block k (h.lt k hk) fun hF => hd k hF hk
theorem RAt.keep {w w' : World} {r : Nat} {Q : Rq} {S : NS} (h : RAt w r Q S) (hf : Fr No w w') : RAt w' r Q S := h.fr hf fun _ hF => hF.elim

structure PRr (r : Nat) (Q : Rq) (S : NS) (w : World) (Q' : Rq) (S' : NS) (w' : World) : Prop where
  at_ : RAt w' r Q' S'
  fr : Fr (footR r Q S) w w'
  foot : ∀ k, footR r Q' S' k → footR r Q S k ∨ w.heap.size ≤ k
def Postr (r : Nat) (Q : Rq) (S : NS) (w : World) (S' : NS) (w' : World) : Prop := ∃ Q', PRr r Q S w Q' S' w'
theorem Postr.refl {r : Nat} {Q : Rq} {S : NS} {w : World} (h : RAt w r Q S) : Postr r Q S w S w := ⟨Q, h, Fr.refl _ _, fun k hk => .inl hk⟩
theorem Postr.same {r : Nat} {Q : Rq} {S : NS} {w w' : World} (h : RAt w r Q S) (hf : Fr No w w') : Postr r Q S w S w' := ⟨Q, h.keep hf, hf.any, fun k hk => .inl hk⟩
theorem PRr.trans {r : Nat} {Q Q1 Q2 : Rq} {S S1 S2 : NS} {w w1 w2 : World} (h : PRr r Q S w Q1 S1 w1) (k : PRr r Q1 S1 w1 Q2 S2 w2) : PRr r Q S w Q2 S2 w2 := by
  obtain ⟨h1, f1, g1⟩ := h
  obtain ⟨h2, f2, g2⟩ := k
  refine ⟨h2, f1.trans f2 (fun j hj hf => (g1 j hf).resolve_right (by omega)), fun j hj => ?_⟩
  rcases g2 j hj with hj | hj
  · exact g1 j hj
  · exact .inr (by have := f1.size; omega)

/-- One connection turns. -/
theorem PRrcon {w w' : World} {r : Nat} {Q : Rq} {S : NS} (h : RAt w r Q S) {n : Int} (hn : n ∈ S.keys) {K' : LK} {sh' : Bool → Bool} (hf : Fr (One (Q.rg n)) w w') (hb : Blk w' (Q.rg n) 38 (refCells n K' sh')) (hs : ShOk K' sh') : PRr r Q S w Q (S.setL n K') w' := by
  obtain ⟨K, sh, hK, hb0, _⟩ := h.con n hn
  have ne1 : r ≠ Q.rg n := h.blk.ne_ hb0 (by decide)
  have ne2 : Q.lv.ownBlock ≠ some (Q.rg n) := fun e => own_blk_ne h.row e hb0 (by decide) rfl
  have same : ∀ k, footR r Q S k → k ≠ Q.rg n → w'.heap[k]? = w.heap[k]? := fun k hk hne => hf.block k (h.lt k hk) hne
  refine ⟨⟨h.blk.of (same _ (.inl rfl) ne1), own_of h.row fun k hk => same k (.inr (.inl hk)) (fun e => ne2 (e ▸ hk)), fun m hm => ?_, h.ap⟩, hf.mono fun k _ hk => .inr (.inr ⟨n, hn, hk⟩), fun k hk => .inl hk⟩
  by_cases e : m = n
  · subst e
    exact ⟨K', sh', by rw [setL_link, if_pos rfl], hb, hs⟩
  · obtain ⟨Km, shm, h1, h2, h3⟩ := h.con m hm
    exact ⟨Km, shm, by rw [setL_link, if_neg e]; exact h1, h2.of (same _ (.inr (.inr ⟨m, hm, rfl⟩)) (h.ap m hm n hn e)), h3⟩

/-- What lies at place k of the list. -/
theorem RAt.at_ {w : World} {r : Nat} {Q : Rq} {S : NS} (h : RAt w r Q S) {k : Nat} (hk : k < S.keys.length) :
    ∃ g cap n K sh, Q.lv = .slice (some ⟨g, 0, none⟩) S.keys.length cap ∧ S.keys[k]? = some n ∧ n ∈ S.keys ∧ S.link n = some K ∧ w.cell? ⟨g, k, none⟩ = some (ptrV (Q.rg n)) ∧ Blk w (Q.rg n) 38 (refCells n K sh) ∧ ShOk K sh := by
  obtain ⟨g, cap, hv, _, _⟩ := h.row.form (by omega)
  have hn : S.keys[k] ∈ S.keys := List.getElem_mem hk
  obtain ⟨K, sh, h1, h2, h3⟩ := h.con _ hn
  have hc := h.row.cells (g := g) (by rw [hv]; rfl) k (ptrV (Q.rg S.keys[k])) (by rw [List.getElem?_map, List.getElem?_eq_getElem hk]; rfl)
  have e : ((⟨g, 0, none⟩ : Addr).add k) = ⟨g, k, none⟩ := by rw [Addr.add_lit]; simp
  rw [e] at hc
  exact ⟨g, cap, _, K, sh, hv, List.getElem?_eq_getElem hk, hn, h1, hc, h2, h3⟩
theorem RAt.lv {w : World} {r : Nat} {Q : Rq} {S : NS} (h : RAt w r Q S) : ∃ A c, Q.lv = .slice A S.keys.length c := by
  rcases h.row.2 with ⟨e, h0⟩ | ⟨g, cap, cur, e, _⟩
  · exact ⟨none, 0, by rw [e, h0]⟩
  · exact ⟨_, _, e⟩

/-! ### find -/
set_option maxHeartbeats 1000000 in
theorem rfind_no (r : Nat) (Q : Rq) (S : NS) (conn side : Int) (w : World) (h : RAt w r Q S) (h8 : S.keys.length ≤ 8) (hno : ∀ n ∈ S.keys, n = conn → ¬ (0 ≤ side ∧ side ≤ 1)) :
    Calls Try.prog 41 #[.pointer (some ⟨r, 0, none⟩), .int .i64 conn, .int .i64 side] w fun e w' => e = .returned (.pointer none) ∧ w = w' := by
  obtain ⟨A, c, hlv⟩ := h.lv
  have c1 : w.cell? ⟨r, 1, none⟩ = some (.slice A S.keys.length c) := by rw [h.blk.cell 1, ← hlv]; rfl
  have HH := Lib.hid h
  have HNo := Lib.hid hno
  have HLV := Lib.hid hlv
  clear h hno hlv
  go_enter Try.func41, Try.ntmps41
  go_wp2
  go_loop [7] (fun i => ∃ k : Nat, k ≤ S.keys.length ∧ i = .int .i64 k) (fun i => S.keys.length - (intOf i).toNat)
  case atStart => exact ⟨0, Nat.zero_le _, rfl⟩
  case round =>
    obtain ⟨k, hk, rfl⟩ := hrel
    by_cases hlt : k < S.keys.length
    · obtain ⟨g, cap, n, K, sh, e1, e2, hn, e3, hc, hb, _⟩ := HH.out.at_ hlt
      rw [HLV.out] at e1
      cases e1
      have hc' : w.cell? ⟨g, k, none⟩ = some (.pointer (some ⟨Q.rg n, 0, none⟩)) := hc
      have hn0 : w.cell? ⟨Q.rg n, 0, none⟩ = some (.int .i64 n) := hb.cell 0
      have hbad := HNo.out n hn
      clear e2 e3 hb hc hn
      by_cases e : n = conn
      · have hb2 := hbad e
        subst e
        clear hbad
        by_cases s0 : 0 ≤ side
        · have s1 : ¬ side ≤ 1 := fun h => hb2 ⟨s0, h⟩
          clear hb2
          go_wp2
          refine ⟨⟨k + 1, by omega, by go_num⟩, by simp [intOf]; omega⟩
        · clear hb2
          go_wp2
          refine ⟨⟨k + 1, by omega, by go_num⟩, by simp [intOf]; omega⟩
      · have hne : (n == conn) = false := by simpa using e
        clear hbad e
        go_wp2
        refine ⟨⟨k + 1, by omega, by go_num⟩, by simp [intOf]; omega⟩
    · go_wp2
      go_ret
      exact ⟨rfl, rfl⟩

set_option maxHeartbeats 1000000 in
theorem rfind_yes (r : Nat) (Q : Rq) (S : NS) (conn side : Int) (w : World) (h : RAt w r Q S) (h8 : S.keys.length ≤ 8) (hin : conn ∈ S.keys) (s0 : 0 ≤ side) (s1 : side ≤ 1) :
    Calls Try.prog 41 #[.pointer (some ⟨r, 0, none⟩), .int .i64 conn, .int .i64 side] w fun e w' => e = .returned (.pointer (some ⟨Q.rg conn, 0, none⟩)) ∧ w = w' := by
  obtain ⟨A, c, hlv⟩ := h.lv
  have c1 : w.cell? ⟨r, 1, none⟩ = some (.slice A S.keys.length c) := by rw [h.blk.cell 1, ← hlv]; rfl
  have HH := Lib.hid h
  have HIn := Lib.hid hin
  have HLV := Lib.hid hlv
  clear h hin hlv
  go_enter Try.func41, Try.ntmps41
  go_wp2
  go_loop [7] (fun i => ∃ k : Nat, k ≤ S.keys.length ∧ i = .int .i64 k ∧ ∀ j, j < k → S.keys[j]? ≠ some conn) (fun i => S.keys.length - (intOf i).toNat)
  case atStart => exact ⟨0, Nat.zero_le _, rfl, fun j hj => by omega⟩
  case round =>
    obtain ⟨k, hk, rfl, hall⟩ := hrel
    have HA := Lib.hid hall
    clear hall
    by_cases hlt : k < S.keys.length
    · obtain ⟨g, cap, n, K, sh, e1, e2, hn, e3, hc, hb, _⟩ := HH.out.at_ hlt
      rw [HLV.out] at e1
      cases e1
      have hc' : w.cell? ⟨g, k, none⟩ = some (.pointer (some ⟨Q.rg n, 0, none⟩)) := hc
      have hn0 : w.cell? ⟨Q.rg n, 0, none⟩ = some (.int .i64 n) := hb.cell 0
      have HE := Lib.hid e2
      clear e2 e3 hb hc hn
      by_cases e : n = conn
      · subst e
        go_wp2
        go_ret
        exact ⟨rfl, rfl⟩
      · have hne : (n == conn) = false := by simpa using e
        go_wp2
        refine ⟨⟨k + 1, by omega, by go_num, fun j hj => ?_⟩, by simp [intOf]; omega⟩
        by_cases ej : j = k
        · subst ej; rw [HE.out]; intro h; cases h; exact e rfl
        · exact HA.out j (by omega)
    · exfalso
      obtain ⟨p, hp, he⟩ := List.getElem_of_mem HIn.out
      exact HA.out p (by omega) (by rw [List.getElem?_eq_getElem hp, he])

end Go.Proofs.Ythcpdeffgdaieaa
