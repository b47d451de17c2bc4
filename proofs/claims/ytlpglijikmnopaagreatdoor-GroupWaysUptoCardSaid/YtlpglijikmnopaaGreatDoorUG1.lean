/- Texts, facts, rows of groups in memory. -/
import Derived.Test.YtlpglijikmnopaaGreatDoorB12
import Derived.Test.YtlpglijikmnopaaGreatDoorGP
namespace Go.Proofs.YtlpglijikmnopaaGreatDoor
open Go.RowKit Go.Maps Go.Sort
set_option linter.unusedVariables false

def strG (_ : Nat → Prop) (_ : World) (t : Tx) (cs : List Value) : Prop := cs = [sv t] ∧ t.length ≤ maxLen
theorem strG_elem : Elem strG := ⟨fun _ _ _ _ _ _ h _ => h⟩
abbrev KR (K : Nat → Prop) (w : World) (v : Value) (l : List Tx) : Prop := RowE K w 1 (strG K w) v l
abbrev IR (K : Nat → Prop) (w : World) (v : Value) (l : List Int) : Prop := RowE K w 1 (intG K w) v l
theorem heap_lt {w w' : World} {g : Nat} (hg : g < w.heap.size) (e : w'.heap[g]? = w.heap[g]?) : g < w'.heap.size := by
  rcases Nat.lt_or_ge g w'.heap.size with h3 | h3
  · exact h3
  · rw [Array.getElem?_eq_none h3, Array.getElem?_eq_getElem hg] at e; cases e
theorem PR.mono' {K K' : Nat → Prop} {w w' : World} {v : Value} {l : List Pt} (h : PR K w v l) (hk : ∀ k, K k → k < w.heap.size → K' k ∧ w'.heap[k]? = w.heap[k]?) : PR K' w' v l := by
  rcases h with h | ⟨a, c, h1, h2, h3, h4⟩
  · exact .inl h
  · refine .inr ⟨a, c, h1, h2, h3, fun hl => ?_⟩
    obtain ⟨g, off, e, hg, hgl, h5⟩ := h4 hl
    obtain ⟨k1, k2⟩ := hk g hg hgl
    exact ⟨g, off, e, k1, heap_lt hgl k2, fun j hj => (h5 j hj).of k2⟩
/-- A fact. -/
structure Fc where
  dims : List Tx
  meas : List Int
deriving DecidableEq
instance : Inhabited Fc := ⟨⟨[], []⟩⟩
instance : Inhabited Rw := ⟨⟨[], ⟨0, []⟩⟩⟩
def fcG (K : Nat → Prop) (w : World) (f : Fc) (cs : List Value) : Prop := ∃ dv mv, cs = [dv, mv] ∧ KR K w dv f.dims ∧ IR K w mv f.meas
theorem fcG_elem : Elem fcG := ⟨fun K K' w w' x cs h hk => by
  obtain ⟨dv, mv, e, h1, h2⟩ := h
  exact ⟨dv, mv, e, h1.mono hk fun _ _ h => h, h2.mono hk fun _ _ h => h⟩⟩
def rwG (K : Nat → Prop) (w : World) (r : Rw) (cs : List Value) : Prop := ∃ kv pv, cs = [kv, .int .i64 r.acc.count, pv] ∧ KR K w kv r.key ∧ PR K w pv r.acc.parts
theorem rwG_elem : Elem rwG := ⟨fun K K' w w' x cs h hk => by
  obtain ⟨dv, mv, e, h1, h2⟩ := h
  exact ⟨dv, mv, e, h1.mono hk fun _ _ h => h, h2.mono' hk⟩⟩
abbrev FR (K : Nat → Prop) (w : World) (v : Value) (l : List Fc) : Prop := RowE K w 2 (fcG K w) v l
abbrev RR (K : Nat → Prop) (w : World) (v : Value) (l : List Rw) : Prop := RowE K w 3 (rwG K w) v l
theorem KR.at_ {K : Nat → Prop} {w : World} {A : Option Addr} {n c : Nat} {l : List Tx} (h : KR K w (.slice A n c) l) {j : Nat} (hj : j < l.length) : ∃ g off, A = some ⟨g, off, none⟩ ∧ K g ∧ g < w.heap.size ∧ w.cell? ⟨g, off + j, none⟩ = some (sv l[j]) ∧ l[j].length ≤ maxLen := by
  obtain ⟨A', c', e, h1, h2, h3⟩ := h
  injection e with e1 e2 e3
  subst e1; subst e3
  obtain ⟨g, off, e, hK, hg, hel⟩ := h3 (by omega)
  obtain ⟨cs, _, hcs, hE⟩ := hel j hj
  exact ⟨g, off, e, hK, hg, by have := hcs 0 (by decide); rw [hE.1] at this; simpa using this, hE.2⟩
theorem KR.form {K : Nat → Prop} {w : World} {v : Value} {l : List Tx} (h : KR K w v l) : ∃ A c, v = .slice A l.length c ∧ l.length ≤ c ∧ c ≤ maxLen := by
  obtain ⟨A, c, e, h1, h2, _⟩ := h
  exact ⟨A, c, e, h1, h2⟩
theorem IR.form {K : Nat → Prop} {w : World} {v : Value} {l : List Int} (h : IR K w v l) : ∃ A c, v = .slice A l.length c ∧ l.length ≤ c ∧ c ≤ maxLen := by
  obtain ⟨A, c, e, h1, h2, _⟩ := h
  exact ⟨A, c, e, h1, h2⟩
theorem IR.at_ {K : Nat → Prop} {w : World} {A : Option Addr} {n c : Nat} {l : List Int} (h : IR K w (.slice A n c) l) {j : Nat} (hj : j < l.length) : ∃ g off, A = some ⟨g, off, none⟩ ∧ K g ∧ g < w.heap.size ∧ w.cell? ⟨g, off + j, none⟩ = some (.int .i64 l[j]) ∧ i64 l[j] := by
  obtain ⟨A', c', e, h1, h2, h3⟩ := h
  injection e with e1 e2 e3
  subst e1; subst e3
  obtain ⟨g, off, e, hK, hg, hel⟩ := h3 (by omega)
  obtain ⟨cs, _, hcs, hE⟩ := hel j hj
  exact ⟨g, off, e, hK, hg, by have := hcs 0 (by decide); rw [hE.1] at this; simpa using this, hE.2⟩
theorem FR.at_ {K : Nat → Prop} {w : World} {A : Option Addr} {n c : Nat} {l : List Fc} (h : FR K w (.slice A n c) l) {j : Nat} (hj : j < l.length) :
    ∃ g off dv mv, A = some ⟨g, off, none⟩ ∧ K g ∧ g < w.heap.size ∧ w.cell? ⟨g, off + j * 2, none⟩ = some dv ∧ w.cell? ⟨g, off + j * 2 + 1, none⟩ = some mv ∧ KR K w dv l[j].dims ∧ IR K w mv l[j].meas := by
  obtain ⟨A', c', e, h1, h2, h3⟩ := h
  injection e with e1 e2 e3
  subst e1; subst e3
  obtain ⟨g, off, e, hK, hg, hel⟩ := h3 (by omega)
  obtain ⟨cs, _, hcs, dv, mv, rfl, hd, hm⟩ := hel j hj
  exact ⟨g, off, dv, mv, e, hK, hg, hcs 0 (by decide), hcs 1 (by decide), hd, hm⟩
theorem RR.at_ {K : Nat → Prop} {w : World} {A : Option Addr} {n c : Nat} {l : List Rw} (h : RR K w (.slice A n c) l) {j : Nat} (hj : j < l.length) :
    ∃ g off kv pv, A = some ⟨g, off, none⟩ ∧ K g ∧ g < w.heap.size ∧ w.cell? ⟨g, off + j * 3, none⟩ = some kv ∧ w.cell? ⟨g, off + j * 3 + 1, none⟩ = some (.int .i64 l[j].acc.count) ∧ w.cell? ⟨g, off + j * 3 + 2, none⟩ = some pv ∧ KR K w kv l[j].key ∧ PR K w pv l[j].acc.parts := by
  obtain ⟨A', c', e, h1, h2, h3⟩ := h
  injection e with e1 e2 e3
  subst e1; subst e3
  obtain ⟨g, off, e, hK, hg, hel⟩ := h3 (by omega)
  obtain ⟨cs, _, hcs, kv, pv, rfl, hd, hm⟩ := hel j hj
  exact ⟨g, off, kv, pv, e, hK, hg, hcs 0 (by decide), hcs 1 (by decide), hcs 2 (by decide), hd, hm⟩
theorem KR.no {K : Nat → Prop} {w w' : World} {v : Value} {l : List Tx} (h : KR K w v l) (f : Fr No w w') : KR K w' v l := RowE.at_ strG_elem h f
theorem IR.no {K : Nat → Prop} {w w' : World} {v : Value} {l : List Int} (h : IR K w v l) (f : Fr No w w') : IR K w' v l := RowE.at_ intG_elem h f
theorem FR.no {K : Nat → Prop} {w w' : World} {v : Value} {l : List Fc} (h : FR K w v l) (f : Fr No w w') : FR K w' v l := RowE.at_ fcG_elem h f
theorem RR.no {K : Nat → Prop} {w w' : World} {v : Value} {l : List Rw} (h : RR K w v l) (f : Fr No w w') : RR K w' v l := RowE.at_ rwG_elem h f

/-! ### rows whose memory may be written to -/
/-- No cell of a slice's block is frozen. -/
def Uv (w : World) (v : Value) : Prop := ∀ a n c, v = .slice (some a) n c → 0 < n → ∀ o, w.frozen? ⟨a.block, o, none⟩ = false
theorem Uv.of {w w' : World} {v : Value} (h : Uv w v) (e : ∀ a n c, v = .slice (some a) n c → 0 < n → w'.heap[a.block]? = w.heap[a.block]?) : Uv w' v := fun a n c hv h0 o => by
  have h1 := h a n c hv h0 o
  have h2 := e a n c hv h0
  simp only [World.frozen?] at h1 ⊢
  rw [h2]
  exact h1
theorem Uv.nil (w : World) (n c : Nat) : Uv w (.slice none n c) := fun a n c hv => by cases hv
theorem KR.in_ {K : Nat → Prop} {w : World} {v : Value} {l : List Tx} (h : KR K w v l) {a : Addr} {n c : Nat} (e : v = .slice (some a) n c) (h0 : 0 < n) : K a.block ∧ a.block < w.heap.size := by
  obtain ⟨A, c', e1, _, _, h3⟩ := h
  rw [e] at e1
  injection e1 with e2 e3 e4
  obtain ⟨g, off, e5, hK, hg, _⟩ := h3 (by omega)
  rw [← e2] at e5
  injection e5 with e5
  subst e5
  exact ⟨hK, hg⟩
theorem PR.in_ {K : Nat → Prop} {w : World} {v : Value} {l : List Pt} (h : PR K w v l) {a : Addr} {n c : Nat} (e : v = .slice (some a) n c) (h0 : 0 < n) : K a.block ∧ a.block < w.heap.size := by
  rcases h with ⟨e1, _⟩ | ⟨a', c', e1, _, _, h3⟩
  · rw [e] at e1; cases e1
  · rw [e] at e1
    injection e1 with e2 e3 e4
    injection e2 with e2
    obtain ⟨g, off, e5, hK, hg, _⟩ := h3 (by omega)
    rw [← e2] at e5
    subst e5
    exact ⟨hK, hg⟩
def KRz (K : Nat → Prop) (w : World) (v : Value) (l : List Tx) : Prop := KR K w v l ∧ Uv w v
def PRz (K : Nat → Prop) (w : World) (v : Value) (l : List Pt) : Prop := PR K w v l ∧ Uv w v
theorem KRz.mono {K K' : Nat → Prop} {w w' : World} {v : Value} {l : List Tx} (h : KRz K w v l) (hk : ∀ k, K k → k < w.heap.size → K' k ∧ w'.heap[k]? = w.heap[k]?) (_ : ∀ x cs, strG K w x cs → strG K' w' x cs) : KRz K' w' v l :=
  ⟨RowE.mono h.1 hk fun _ _ h => h, h.2.of fun a n c e h0 => by obtain ⟨h1, h2⟩ := KR.in_ h.1 e h0; exact (hk _ h1 h2).2⟩
theorem KRz.no {K : Nat → Prop} {w w' : World} {v : Value} {l : List Tx} (h : KRz K w v l) (f : Fr No w w') : KRz K w' v l := h.mono (fun k hk hl => ⟨hk, f.block k hl id⟩) fun _ _ h => h
theorem KRz.form {K : Nat → Prop} {w : World} {v : Value} {l : List Tx} (h : KRz K w v l) : ∃ A c, v = .slice A l.length c ∧ l.length ≤ c ∧ c ≤ maxLen := KR.form h.1
theorem PRz.mono' {K K' : Nat → Prop} {w w' : World} {v : Value} {l : List Pt} (h : PRz K w v l) (hk : ∀ k, K k → k < w.heap.size → K' k ∧ w'.heap[k]? = w.heap[k]?) : PRz K' w' v l :=
  ⟨PR.mono' h.1 hk, h.2.of fun a n c e h0 => by obtain ⟨h1, h2⟩ := PR.in_ h.1 e h0; exact (hk _ h1 h2).2⟩
theorem PRz.no {K : Nat → Prop} {w w' : World} {v : Value} {l : List Pt} (h : PRz K w v l) (f : Fr No w w') : PRz K w' v l := h.mono' fun k hk hl => ⟨hk, f.block k hl id⟩
theorem PRz.form {K : Nat → Prop} {w : World} {v : Value} {l : List Pt} (h : PRz K w v l) : ∃ A c, v = .slice A l.length c ∧ l.length ≤ c ∧ c ≤ maxLen := PR.form h.1
theorem PRz.nil (K : Nat → Prop) (w : World) : PRz K w (.slice none 0 0) [] := ⟨.inl ⟨rfl, rfl⟩, Uv.nil _ _ _⟩
theorem PO.prz {b : Nat} {w : World} {v : Value} {l : List Pt} (h : PO b w v l) : PRz (fun k => b ≤ k) w v l := by
  refine ⟨h.pr, fun a n c hv h0 o => ?_⟩
  rcases h with ⟨e, _⟩ | ⟨g, c', cs, e, _, _, _, h5, _⟩
  · rw [e] at hv; cases hv
  · rw [e] at hv
    injection hv with e2 e3 e4
    injection e2 with e2
    subst e2
    exact h5.frozen o
def rwU (K : Nat → Prop) (w : World) (r : Rw) (cs : List Value) : Prop := ∃ kv pv, cs = [kv, .int .i64 r.acc.count, pv] ∧ KRz K w kv r.key ∧ PRz K w pv r.acc.parts
theorem rwU_elem : Elem rwU := ⟨fun K K' w w' x cs h hk => by
  obtain ⟨dv, mv, e, h1, h2⟩ := h
  exact ⟨dv, mv, e, h1.mono hk fun _ _ h => h, h2.mono' hk⟩⟩
theorem rwU.g {K : Nat → Prop} {w : World} {r : Rw} {cs : List Value} (h : rwU K w r cs) : rwG K w r cs := by
  obtain ⟨dv, mv, e, h1, h2⟩ := h
  exact ⟨dv, mv, e, h1.1, h2.1⟩
abbrev RRz (K : Nat → Prop) (w : World) (v : Value) (l : List Rw) : Prop := RowE K w 3 (rwU K w) v l
theorem RRz.rr {K : Nat → Prop} {w : World} {v : Value} {l : List Rw} (h : RRz K w v l) : RR K w v l := RowE.mono h (fun k hk _ => ⟨hk, rfl⟩) fun _ _ h => h.g
theorem own_uv {w : World} {b e s n : Nat} {v : Value} {xs : List Value} (h : w.ownsRow b e s v n xs) : Uv w v := by
  intro a n' c' hv h0 o
  rcases h.2 with ⟨e1, _⟩ | ⟨g, cap, cur, e1, hg, hh, _⟩
  · rw [e1] at hv; cases hv
  · rw [e1] at hv
    injection hv with h1 h2 h3
    injection h1 with h1
    subst h1
    simp [World.frozen?, hh]

/-! ### keys compared -/
theorem isNaN_any (a : Tx) (w : World) : Calls Tryz.prog 107 #[sv a] w fun e w' => e = .returned (.bool false) ∧ w = w' := by
  go_enter Tryz.func107, Tryz.ntmps107
  go_wp2_with fail
  go_ret
  exact ⟨by simp, rfl⟩
theorem cmpS_any (a b : Tx) (w : World) : Calls Tryz.prog 84 #[sv a, sv b] w fun e w' => e = .returned (.int .i64 (cmpT a b)) ∧ w = w' := by
  have HN := Lib.hid (fun x => isNaN_any x w)
  by_cases h1 : a < b
  · have hv : cmpT a b = -1 := by unfold cmpT; rw [if_pos h1]
    have e1 : Op.bytesLess a b = true := by rw [less_dec]; exact decide_eq_true h1
    have HV := Lib.hid hv
    clear h1 hv
    go_enter Tryz.func84, Tryz.ntmps84
    go_wp2_with (first | (go_at_call 107; refine (HN.out _).mono ?_; rintro e w' ⟨rfl, rfl⟩))
    go_ret
    exact ⟨by rw [HV.out]; rfl, rfl⟩
  · have e1 : Op.bytesLess a b = false := by rw [less_dec]; exact decide_eq_false h1
    by_cases h2 : b < a
    · have hv : cmpT a b = 1 := by unfold cmpT; rw [if_neg h1, if_pos h2]
      have e2 : (a == b) = false := by simp; rintro rfl; exact h1 h2
      have HV := Lib.hid hv
      clear h1 h2 hv
      go_enter Tryz.func84, Tryz.ntmps84
      go_wp2_with (first | (go_at_call 107; refine (HN.out _).mono ?_; rintro e w' ⟨rfl, rfl⟩))
      go_ret
      exact ⟨by rw [HV.out]; rfl, rfl⟩
    · have hv : cmpT a b = 0 := by unfold cmpT; rw [if_neg h1, if_neg h2]
      have e2 : (a == b) = true := by simp; exact tx_tri h1 h2
      have HV := Lib.hid hv
      clear h1 h2 hv
      go_enter Tryz.func84, Tryz.ntmps84
      go_wp2_with (first | (go_at_call 107; refine (HN.out _).mono ?_; rintro e w' ⟨rfl, rfl⟩))
      go_ret
      exact ⟨by rw [HV.out]; rfl, rfl⟩
theorem cmpK_step {a b : Ky} {j : Nat} (ha : j < a.length) (hb : j < b.length) : cmpK (a.drop j) (b.drop j) = if cmpT a[j] b[j] = 0 then cmpK (a.drop (j + 1)) (b.drop (j + 1)) else cmpT a[j] b[j] := by
  rw [List.drop_eq_getElem_cons ha, List.drop_eq_getElem_cons hb]
  conv => lhs; unfold cmpK
theorem cmpK_long {a b : Ky} {j : Nat} (ha : j < a.length) (hb : b.length ≤ j) : cmpK (a.drop j) (b.drop j) = 1 := by
  rw [List.drop_eq_getElem_cons ha, List.drop_eq_nil_of_le hb]
  rfl
theorem cmpK_short {a b : Ky} {j : Nat} (ha : a.length ≤ j) (hb : j < b.length) : cmpK (a.drop j) (b.drop j) = -1 := by
  rw [List.drop_eq_getElem_cons hb, List.drop_eq_nil_of_le ha]
  rfl
set_option maxRecDepth 100000 in
theorem slCmp_x {K K2 : Nat → Prop} {a b : Ky} {v v2 : Value} (w : World) (h : KR K w v a) (h2 : KR K2 w v2 b) : Calls Tryz.prog 62 #[v, v2] w fun e w' => e = .returned (.int .i64 (cmpK a b)) ∧ w = w' := by
  obtain ⟨A, ca, rfl, ha1, ha2⟩ := h.form
  obtain ⟨B, cb, rfl, hb1, hb2⟩ := h2.form
  obtain ⟨N, hN⟩ : ∃ n, a.length = n := ⟨_, rfl⟩
  obtain ⟨M, hM⟩ : ∃ n, b.length = n := ⟨_, rfl⟩
  rw [hN] at h ha1 ⊢
  rw [hM] at h2 hb1 ⊢
  have HN := Lib.hid hN
  have HM := Lib.hid hM
  have HA := Lib.hid h
  have HB := Lib.hid h2
  have HC := Lib.hid cmpS_any
  unfold maxLen at ha2 hb2
  clear h h2 hN hM
  go_enter Tryz.func62, Tryz.ntmps62
  go_wp2_with fail
  go_loopg [5, 6, 7, 8, 11] N (fun k r5 r6 r7 r8 r11 wr => Hid (∃ j : Nat, r11 = .int .i64 (j : Nat) ∧ j + k = N ∧ j ≤ M ∧ wr = w ∧ cmpK a b = cmpK (a.drop j) (b.drop j)))
  case atStart => exact Lib.hid ⟨0, rfl, by omega, by omega, rfl, rfl⟩
  case round =>
    obtain ⟨j, rfl, hjk, hjM, rfl, hv⟩ := hrel.out
    have HV := Lib.hid hv
    clear hrel hv
    by_cases hj : j < N
    · have hji : (j : Int) < (N : Int) := by omega
      have hja : j < a.length := by have := HN.out; omega
      obtain ⟨g, off, rfl, -, -, hc, -⟩ := HA.out.at_ hja
      by_cases hm : j < M
      · have hmi : (j : Int) < (M : Int) := by omega
        have hjb : j < b.length := by have := HM.out; omega
        obtain ⟨g2, off2, rfl, -, -, hc2, -⟩ := HB.out.at_ hjb
        have HS := Lib.hid (cmpK_step hja hjb)
        obtain ⟨x, hx⟩ : ∃ x, a[j] = x := ⟨_, rfl⟩
        obtain ⟨y, hy⟩ : ∃ y, b[j] = y := ⟨_, rfl⟩
        rw [hx, hy] at HS
        rw [hx] at hc
        rw [hy] at hc2
        have HC1 := Lib.hid (HC.out x y wr)
        obtain ⟨q, hq⟩ : ∃ q, cmpT x y = q := ⟨_, rfl⟩
        rw [hq] at HS HC1
        clear hx hy hq
        by_cases h0 : q = 0
        · subst h0
          have HV2 : Hid (cmpK a b = cmpK (a.drop (j + 1)) (b.drop (j + 1))) := Lib.hid (HV.out.trans (HS.out.trans (if_pos rfl)))
          go_wp2_with (go_at_call 84; refine HC1.out.mono ?_; rintro e w' ⟨rfl, rfl⟩)
          obtain ⟨g1, rfl⟩ : ∃ g1, gk = g1 + 1 := ⟨gk - 1, by omega⟩
          go_roundg g1
          case rel => exact Lib.hid ⟨j + 1, by go_num, by omega, by omega, rfl, HV2.out⟩
          all_goals omega
        · have hq0 : (q == 0) = false := by simpa using h0
          have hq1 : (q != 0) = true := by simpa using h0
          have HV2 : Hid (cmpK a b = q) := Lib.hid (HV.out.trans (HS.out.trans (if_neg h0)))
          go_wp2_with (go_at_call 84; refine HC1.out.mono ?_; rintro e w' ⟨rfl, rfl⟩)
          go_ret
          exact ⟨by rw [HV2.out]; rfl, rfl⟩
      · have hmi : (M : Int) ≤ (j : Int) := by omega
        have HV2 : Hid (cmpK a b = 1) := Lib.hid (HV.out.trans (cmpK_long hja (by have := HM.out; omega)))
        go_wp2_with fail
        go_ret
        exact ⟨by rw [HV2.out]; rfl, rfl⟩
    · have hji : (N : Int) ≤ (j : Int) := by omega
      by_cases hm : N < M
      · have hmi : (N : Int) < (M : Int) := by omega
        have HV2 : Hid (cmpK a b = -1) := Lib.hid (HV.out.trans (cmpK_short (by have := HN.out; omega) (by have := HM.out; omega)))
        go_wp2_with fail
        go_ret
        exact ⟨by rw [HV2.out]; rfl, rfl⟩
      · have hmi : (M : Int) ≤ (N : Int) := by omega
        have HV2 : Hid (cmpK a b = 0) := Lib.hid (by
          have h1 := HN.out
          have h2 := HM.out
          rw [HV.out, List.drop_eq_nil_of_le (by omega), List.drop_eq_nil_of_le (by omega)]; rfl)
        go_wp2_with fail
        go_ret
        exact ⟨by rw [HV2.out]; rfl, rfl⟩
theorem compare_x {K K2 : Nat → Prop} {a b : Ky} {v v2 : Value} (w : World) (h : KR K w v a) (h2 : KR K2 w v2 b) : Calls Tryz.prog 25 #[v, v2] w fun e w' => e = .returned (.int .i64 (cmpK a b)) ∧ w = w' := by
  have HC := Lib.hid (slCmp_x w h h2)
  obtain ⟨A, ca, rfl, -⟩ := h.form
  obtain ⟨B, cb, rfl, -⟩ := h2.form
  obtain ⟨q, hq⟩ : ∃ q, cmpK a b = q := ⟨_, rfl⟩
  rw [hq] at HC ⊢
  clear h h2 hq
  go_enter Tryz.func25, Tryz.ntmps25
  go_wp2_with (go_at_call 62; refine HC.out.mono ?_; rintro e w' ⟨rfl, rfl⟩)
  go_ret
  exact ⟨rfl, rfl⟩
theorem compare_any {K K2 : Nat → Prop} {a b : Ky} {v v2 : Value} (w : World) (h : KR K w v a) (h2 : KR K2 w v2 b) : Calls Tryz.prog 25 #[v, v2] w (TellsI (cmpK a b) w) :=
  (compare_x w h h2).mono fun e w' ⟨h1, h2⟩ => ⟨h1, by rw [← h2]; exact Fr.refl _ _⟩
end Go.Proofs.YtlpglijikmnopaaGreatDoor
