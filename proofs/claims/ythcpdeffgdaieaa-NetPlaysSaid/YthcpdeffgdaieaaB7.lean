/- NetBytes: what the law keeps. -/
import Derived.Test.YthcpdeffgdaieaaB4
namespace Go.Proofs.Ythcpdeffgdaieaa
open Go.RowKit Go.Maps
set_option linter.unusedVariables false

/-- One call of a script. -/
structure OpV where
  kind : Int
  conn : Int
  side : Int
  many : Int
  data : List UInt8
def i64 (n : Int) : Prop := -9223372036854775808 ≤ n ∧ n ≤ 9223372036854775807
structure OpV.Ok (o : OpV) : Prop where
  kind : i64 o.kind
  conn : i64 o.conn
  side : i64 o.side
  many : i64 o.many
  data : o.data.length ≤ 140737488355328
def OpV.cells (o : OpV) : Array Value := #[.int .i64 o.kind, .int .i64 o.conn, .int .i64 o.side, .int .i64 o.many, .string ⟨o.data.toArray⟩]

/-- A script, lying in block g. -/
structure OpsAt (w : World) (g : Nat) (A : Option Addr) (n c : Nat) (os : List OpV) : Prop where
  len : n = os.length
  cap : n ≤ c ∧ c ≤ 2932031007403
  ok : ∀ o ∈ os, o.Ok
  lt : 0 < n → g < w.heap.size
  at_ : 0 < n → ∃ off, A = some ⟨g, off, none⟩ ∧ ∀ j (hj : j < os.length) i (hi : i < 5), w.cell? ⟨g, off + (j * 5 + i), none⟩ = os[j].cells[i]?
theorem OpsAt.below {w w' : World} {g : Nat} {A : Option Addr} {n c : Nat} {os : List OpV} (h : OpsAt w g A n c os) (hb : Below w.heap.size w w') : OpsAt w' g A n c os :=
  ⟨h.len, h.cap, h.ok, fun hn => Nat.lt_of_lt_of_le (h.lt hn) hb.size, fun hn => by
    obtain ⟨off, e, hc⟩ := h.at_ hn
    exact ⟨off, e, fun j hj i hi => (hb.cell (h.lt hn)).trans (hc j hj i hi)⟩⟩
theorem OpsAt.cell {w : World} {g : Nat} {A : Option Addr} {n c : Nat} {os : List OpV} (h : OpsAt w g A n c os) {k : Nat} (hk : k < n) :
    ∃ off o, A = some ⟨g, off, none⟩ ∧ os[k]? = some o ∧ o.Ok ∧ w.cell? ⟨g, off + k * 5, none⟩ = some (.int .i64 o.kind) ∧ w.cell? ⟨g, off + k * 5 + 1, none⟩ = some (.int .i64 o.conn) ∧ w.cell? ⟨g, off + k * 5 + 2, none⟩ = some (.int .i64 o.side) ∧ w.cell? ⟨g, off + k * 5 + 3, none⟩ = some (.int .i64 o.many) ∧ w.cell? ⟨g, off + k * 5 + 4, none⟩ = some (.string ⟨o.data.toArray⟩) := by
  obtain ⟨off, e, hc⟩ := h.at_ (by omega)
  have hl := h.len
  have hk' : k < os.length := by omega
  exact ⟨off, os[k], e, List.getElem?_eq_getElem hk', h.ok _ (List.getElem_mem hk'), hc k hk' 0 (by omega), hc k hk' 1 (by omega), hc k hk' 2 (by omega), hc k hk' 3 (by omega), hc k hk' 4 (by omega)⟩

/-- A number's last bit is a side. -/
theorem and_one (x : Int) : ∃ b, bits .and .i64 x 1 = sd b := by
  have h1 : (BitVec.ofInt 64 x &&& BitVec.ofInt 64 1).toNat = (BitVec.ofInt 64 x).toNat % 2 := by
    rw [BitVec.toNat_and]
    have e : (BitVec.ofInt 64 1).toNat = 2 ^ 1 - 1 := by decide
    rw [e, Nat.and_two_pow_sub_one_eq_mod]
  have h2 : bits .and .i64 x 1 = IntKind.i64.wrap (((BitVec.ofInt 64 x).toNat % 2 : Nat) : Int) := by
    rw [← h1]; rfl
  rcases Nat.mod_two_eq_zero_or_one (BitVec.ofInt 64 x).toNat with h | h
  · exact ⟨false, by rw [h2, h]; decide⟩
  · exact ⟨true, by rw [h2, h]; decide⟩
theorem sd_bd (b : Bool) : 0 ≤ sd b ∧ sd b ≤ 1 := by cases b <;> decide
theorem sd_not (b : Bool) : 1 - sd b = sd (!b) := by cases b <;> decide

/-- The law's own blocks. -/
def Own3 (B bs bg bh k : Nat) : Prop := k < B ∨ k = bs ∨ k = bg ∨ k = bh
def strs2 (f : Bool → List UInt8) : Array Value := #[.string ⟨(f false).toArray⟩, .string ⟨(f true).toArray⟩]
def bools2 (f : Bool → Bool) : Array Value := #[.bool (f false), .bool (f true)]

/-- What the law keeps, and how it lies. -/
structure BL (w0 w : World) (bs bg bh d : Nat) (S : NS) (se go : Bool → List UInt8) (sh : Bool → Bool) : Prop where
  nt : Nt w (Own3 w0.heap.size bs bg bh) d S
  bel : Below w0.heap.size w0 w
  bse : Blk w bs 35 (strs2 se)
  bgo : Blk w bg 35 (strs2 go)
  bsh : Blk w bh 36 (bools2 sh)
  ne : w0.heap.size ≤ bs ∧ w0.heap.size ≤ bg ∧ w0.heap.size ≤ bh ∧ bs ≠ bg ∧ bs ≠ bh ∧ bg ≠ bh

/-- What was sent is what was taken, and what lies between. -/
structure BInv (S : NS) (se go : Bool → List UInt8) (sh : Bool → Bool) : Prop where
  some : ∀ K, S.link 1 = some K → K.cut = false ∧ ∀ s, se (!s) = go s ++ (K.way s).bytes ∧ (K.way (!s)).shut = sh s
  none : S.link 1 = none → ∀ s, se (!s) = go s

def LoopB (w0 w : World) (bs bg bh d n : Nat) (iv : Value) : Prop :=
  ∃ (k : Nat) (S : NS) (se go : Bool → List UInt8) (sh : Bool → Bool), k ≤ n ∧ iv = .int .i64 k ∧ BL w0 w bs bg bh d S se go sh ∧ BInv S se go sh ∧ ∀ s, (se s).length ≤ 65536 * k

theorem loopB_start {w0 w3 : World} {d n : Nat} (h : Nt w3 (Old w0.heap.size) d N1) (hb : Below w0.heap.size w0 w3) :
    LoopB w0 (((w3.alloc (.cells #[.string ⟨#[]⟩, .string ⟨#[]⟩] 35)).alloc (.cells #[.string ⟨#[]⟩, .string ⟨#[]⟩] 35)).alloc (.cells #[.bool false, .bool false] 36)) w3.heap.size (w3.heap.size + 1) (w3.heap.size + 1 + 1) d n (.int .i64 0) := by
  have hsz := hb.size
  have h1 := ((h.alloc (.cells #[.string ⟨#[]⟩, .string ⟨#[]⟩] 35)).alloc (.cells #[.string ⟨#[]⟩, .string ⟨#[]⟩] 35)).alloc (.cells #[.bool false, .bool false] 36)
  have e1 : (w3.alloc (.cells #[.string ⟨#[]⟩, .string ⟨#[]⟩] 35)).heap.size = w3.heap.size + 1 := by simp
  have e2 : ((w3.alloc (.cells #[.string ⟨#[]⟩, .string ⟨#[]⟩] 35)).alloc (.cells #[.string ⟨#[]⟩, .string ⟨#[]⟩] 35)).heap.size = w3.heap.size + 1 + 1 := by simp
  have b0 := Blk.new w3 35 #[.string ⟨#[]⟩, .string ⟨#[]⟩]
  have b1 := Blk.new (w3.alloc (.cells #[.string ⟨#[]⟩, .string ⟨#[]⟩] 35)) 35 #[.string ⟨#[]⟩, .string ⟨#[]⟩]
  have b2 := Blk.new ((w3.alloc (.cells #[.string ⟨#[]⟩, .string ⟨#[]⟩] 35)).alloc (.cells #[.string ⟨#[]⟩, .string ⟨#[]⟩] 35)) 36 #[.bool false, .bool false]
  have al : ∀ {w : World} {g : Nat} {t : TypeId} {cs : Array Value} (o : Obj), Blk w g t cs → Blk (w.alloc o) g t cs := fun o hb => hb.of (Below.heap_alloc _ o _ hb.lt)
  rw [e1] at b1 h1
  rw [e2] at b2 h1
  refine ⟨0, N1, fun _ => [], fun _ => [], fun _ => false, Nat.zero_le _, rfl, ⟨h1.less fun k hk => ?_, ?_, al _ (al _ b0), al _ b1, b2, ?_⟩, ⟨fun K hK => ?_, fun hK => ?_⟩, fun s => by simp⟩
  · rcases hk with hk | hk | hk | hk
    · exact .inl (.inl (.inl hk))
    · exact .inl (.inl (.inr hk))
    · exact .inl (.inr hk)
    · exact .inr hk
  · exact hb.trans (((((Below.refl _ w3).alloc (Nat.le_refl _) _).alloc (by simp) _).alloc (by simp; omega) _).mono hsz)
  · omega
  · have : N1.link 1 = some LK.fresh := by kernel_rfl
    rw [this] at hK
    cases hK
    exact ⟨rfl, fun s => ⟨rfl, rfl⟩⟩
  · have : N1.link 1 = some LK.fresh := by kernel_rfl
    rw [this] at hK
    cases hK

/-! ### within a round: the call's own copy lies beside -/
structure RB (w0 w : World) (bs bg bh bo d : Nat) (o : OpV) (S : NS) (se go : Bool → List UInt8) (sh : Bool → Bool) : Prop where
  nt : Nt w (fun k => Own3 w0.heap.size bs bg bh k ∨ k = bo) d S
  bel : Below w0.heap.size w0 w
  bse : Blk w bs 35 (strs2 se)
  bgo : Blk w bg 35 (strs2 go)
  bsh : Blk w bh 36 (bools2 sh)
  bop : Blk w bo 32 o.cells
  ne : w0.heap.size ≤ bs ∧ w0.heap.size ≤ bg ∧ w0.heap.size ≤ bh ∧ bs ≠ bg ∧ bs ≠ bh ∧ bg ≠ bh
  neo : w0.heap.size ≤ bo ∧ bo ≠ bs ∧ bo ≠ bg ∧ bo ≠ bh

section
variable {w0 w : World} {bs bg bh bo d : Nat} {o : OpV} {S : NS} {se go : Bool → List UInt8} {sh : Bool → Bool}
theorem BL.start (h : BL w0 w bs bg bh d S se go sh) (o : OpV) : RB w0 (w.alloc (.cells o.cells 32)) bs bg bh w.heap.size d o S se go sh := by
  have al : ∀ {g : Nat} {t : TypeId} {cs : Array Value}, Blk w g t cs → Blk (w.alloc (.cells o.cells 32)) g t cs := fun hb => hb.of (Below.heap_alloc _ _ _ hb.lt)
  have l1 := h.bse.lt
  have l2 := h.bgo.lt
  have l3 := h.bsh.lt
  have l0 := h.bel.size
  exact ⟨h.nt.alloc _, h.bel.trans (((Below.refl _ w).alloc (Nat.le_refl _) _).mono l0), al h.bse, al h.bgo, al h.bsh, Blk.new w 32 _, h.ne, by omega⟩
theorem RB.fin (h : RB w0 w bs bg bh bo d o S se go sh) : BL w0 w bs bg bh d S se go sh :=
  ⟨h.nt.less fun k hk => .inl hk, h.bel, h.bse, h.bgo, h.bsh, h.ne⟩
theorem RB.turn {w' : World} {S' : NS} (h : RB w0 w bs bg bh bo d o S se go sh) (hn : Nt w' (fun k => Own3 w0.heap.size bs bg bh k ∨ k = bo) d S') (hf : Fr (Out fun k => Own3 w0.heap.size bs bg bh k ∨ k = bo) w w') : RB w0 w' bs bg bh bo d o S' se go sh := by
  have kp : ∀ {g : Nat} {t : TypeId} {cs : Array Value}, (Own3 w0.heap.size bs bg bh g ∨ g = bo) → Blk w g t cs → Blk w' g t cs := fun hx hb => hb.of (hf.block _ hb.lt fun ho => ho hx)
  exact ⟨hn, h.bel.trans (hf.below_of h.bel.size fun k hk => Nat.le_of_not_lt fun hlt => hk (.inl (.inl hlt))), kp (.inl (.inr (.inl rfl))) h.bse, kp (.inl (.inr (.inr (.inl rfl)))) h.bgo, kp (.inl (.inr (.inr (.inr rfl)))) h.bsh, kp (.inr rfl) h.bop, h.ne, h.neo⟩
theorem RB.keep {w' : World} (h : RB w0 w bs bg bh bo d o S se go sh) (hf : Fr No w w') : RB w0 w' bs bg bh bo d o S se go sh := h.turn (h.nt.keep hf) hf.any
theorem RB.drew (h : RB w0 w bs bg bh bo d o S se go sh) : RB w0 w.drew bs bg bh bo d o S se go sh := h.keep ((Fr.refl _ w).drew)

theorem set_ne {w w' : World} {g b t : Nat} {cs : Array Value} {i : Nat} {v : Value} (h : Blk w g t cs) (hne : g ≠ b) : Blk (w.setCell ⟨b, i, none⟩ v) g t cs := h.of (Below.heap_setCell w ⟨b, i, none⟩ v g hne)
theorem strs2_set (f : Bool → List UInt8) (b : Bool) (l : List UInt8) : (strs2 f).setIfInBounds (sd b).toNat (.string ⟨l.toArray⟩) = strs2 (updB f b l) := by
  cases b <;> simp [strs2, sd, updB]
theorem bools2_set (f : Bool → Bool) (b : Bool) (x : Bool) : (bools2 f).setIfInBounds (sd b).toNat (.bool x) = bools2 (updB f b x) := by
  cases b <;> simp [bools2, sd, updB]
theorem RB.setOwn {i : Nat} {v : Value} {g : Nat} (h : RB w0 w bs bg bh bo d o S se go sh) (hg : g = bs ∨ g = bg ∨ g = bh) :
    Nt (w.setCell ⟨g, i, none⟩ v) (fun k => Own3 w0.heap.size bs bg bh k ∨ k = bo) d S ∧ Below w0.heap.size w0 (w.setCell ⟨g, i, none⟩ v) := by
  have hf : Fr (One g) w (w.setCell ⟨g, i, none⟩ v) := (Fr.refl (One g) w).setCell (p := ⟨g, i, none⟩) (fun _ => rfl) v
  have hne := h.ne
  refine ⟨h.nt.own (hf.mono fun k _ hk => ?_), h.bel.trans (hf.below_of h.bel.size fun k hk => ?_)⟩
  · unfold One at hk; subst hk
    rcases hg with rfl | rfl | rfl
    · exact .inl (.inr (.inl rfl))
    · exact .inl (.inr (.inr (.inl rfl)))
    · exact .inl (.inr (.inr (.inr rfl)))
  · unfold One at hk; omega
theorem RB.setSe (h : RB w0 w bs bg bh bo d o S se go sh) (b : Bool) (l : List UInt8) : RB w0 (w.setCell ⟨bs, (sd b).toNat, none⟩ (.string ⟨l.toArray⟩)) bs bg bh bo d o S (updB se b l) go sh := by
  obtain ⟨h1, h2⟩ := h.setOwn (g := bs) (i := (sd b).toNat) (v := .string ⟨l.toArray⟩) (.inl rfl)
  have hne := h.ne
  have hno := h.neo
  exact ⟨h1, h2, by rw [← strs2_set]; exact h.bse.set_ _ _, set_ne (w' := w) h.bgo (by omega), set_ne (w' := w) h.bsh (by omega), set_ne (w' := w) h.bop (by omega), hne, hno⟩
theorem RB.setGo (h : RB w0 w bs bg bh bo d o S se go sh) (b : Bool) (l : List UInt8) : RB w0 (w.setCell ⟨bg, (sd b).toNat, none⟩ (.string ⟨l.toArray⟩)) bs bg bh bo d o S se (updB go b l) sh := by
  obtain ⟨h1, h2⟩ := h.setOwn (g := bg) (i := (sd b).toNat) (v := .string ⟨l.toArray⟩) (.inr (.inl rfl))
  have hne := h.ne
  have hno := h.neo
  exact ⟨h1, h2, set_ne (w' := w) h.bse (by omega), by rw [← strs2_set]; exact h.bgo.set_ _ _, set_ne (w' := w) h.bsh (by omega), set_ne (w' := w) h.bop (by omega), hne, hno⟩
theorem RB.setSh (h : RB w0 w bs bg bh bo d o S se go sh) (b : Bool) (x : Bool) : RB w0 (w.setCell ⟨bh, (sd b).toNat, none⟩ (.bool x)) bs bg bh bo d o S se go (updB sh b x) := by
  obtain ⟨h1, h2⟩ := h.setOwn (g := bh) (i := (sd b).toNat) (v := .bool x) (.inr (.inr rfl))
  have hne := h.ne
  have hno := h.neo
  exact ⟨h1, h2, set_ne (w' := w) h.bse (by omega), set_ne (w' := w) h.bgo (by omega), by rw [← bools2_set]; exact h.bsh.set_ _ _, set_ne (w' := w) h.bop (by omega), hne, hno⟩
theorem RB.cse (h : RB w0 w bs bg bh bo d o S se go sh) (b : Bool) : w.cell? ⟨bs, (sd b).toNat, none⟩ = some (.string ⟨(se b).toArray⟩) := by
  rw [h.bse.cell]; cases b <;> rfl
theorem RB.cgo (h : RB w0 w bs bg bh bo d o S se go sh) (b : Bool) : w.cell? ⟨bg, (sd b).toNat, none⟩ = some (.string ⟨(go b).toArray⟩) := by
  rw [h.bgo.cell]; cases b <;> rfl
theorem RB.csh (h : RB w0 w bs bg bh bo d o S se go sh) (b : Bool) : w.cell? ⟨bh, (sd b).toNat, none⟩ = some (.bool (sh b)) := by
  rw [h.bsh.cell]; cases b <;> rfl
theorem RB.cod (h : RB w0 w bs bg bh bo d o S se go sh) : w.cell? ⟨bo, 4, none⟩ = some (.string ⟨o.data.toArray⟩) := h.bop.cell 4
end

/-! ### the calls, as the law's words see them -/
theorem updB_not {α : Type} (f : Bool → α) (b : Bool) (x : α) : updB f b x (!b) = f (!b) := updB_other _ _ (by cases b <;> decide)
theorem updB_not' {α : Type} (f : Bool → α) (b : Bool) (x : α) : updB f (!b) x b = f b := updB_other _ _ (by cases b <;> decide)

inductive Sent (S : NS) (se go : Bool → List UInt8) (sh : Bool → Bool) (b : Bool) (data : List UInt8) : Prop
  | ok (m : Nat) (h1 : m ≤ data.length) (h2 : m ≤ 65536) (h3 : (S.send 1 (sd b) data).1 = ((m : Int), 0)) (h4 : sh b = false) (h5 : BInv (S.send 1 (sd b) data).2 (updB se b (se b ++ data.take m)) go sh)
  | err (E : Int) (h1 : E ≠ 0) (h2 : (S.send 1 (sd b) data).1 = (0, E)) (h3 : BInv (S.send 1 (sd b) data).2 se go sh)

theorem find_sd (S : NS) (b : Bool) : S.find 1 (sd b) = (S.link 1).map fun K => (b, K) := by
  unfold NS.find; rw [sideOf_sd]; rfl

theorem BInv.setL {S : NS} {se go : Bool → List UInt8} {sh : Bool → Bool} {K : LK} (h : K.cut = false ∧ ∀ s, se (!s) = go s ++ (K.way s).bytes ∧ (K.way (!s)).shut = sh s) : BInv (S.setL 1 K) se go sh := by
  have e : (S.setL 1 K).link 1 = Option.some K := by show upd S.link 1 (Option.some K) 1 = _; rw [upd_same]
  exact ⟨fun Q hQ => (by rw [e] at hQ; cases hQ; exact h), fun hn => (by rw [e] at hn; cases hn)⟩
theorem BInv.drop {S : NS} {se go : Bool → List UInt8} {sh : Bool → Bool} (h : ∀ s, se (!s) = go s) : BInv (S.drop 1) se go sh := by
  have e : (S.drop 1).link 1 = Option.none := by show upd S.link 1 Option.none 1 = _; rw [upd_same]
  exact ⟨fun Q hQ => (by rw [e] at hQ; cases hQ), fun _ => h⟩
theorem BInv.release {S : NS} {se go : Bool → List UInt8} {sh : Bool → Bool} {K : LK} (h : K.cut = false ∧ ∀ s, se (!s) = go s ++ (K.way s).bytes ∧ (K.way (!s)).shut = sh s) : BInv ((S.setL 1 K).release 1 K) se go sh := by
  unfold NS.release
  split
  · rename_i ho
    refine BInv.drop fun s => ?_
    rw [(h.2 s).1]
    unfold LK.over at ho
    have : (K.way s).ended = true := by
      simp only [Bool.and_eq_true] at ho
      cases s
      · exact ho.1
      · exact ho.2
    unfold WS.ended at this
    simp only [Bool.and_eq_true, List.isEmpty_iff] at this
    rw [this.2, List.append_nil]
  · exact BInv.setL h

theorem BInv.send {S : NS} {se go : Bool → List UInt8} {sh : Bool → Bool} (h : BInv S se go sh) (b : Bool) (data : List UInt8) : Sent S se go sh b data := by
  cases hK : S.link 1 with
  | none =>
    have e : S.send 1 (sd b) data = ((0, 14), S) := by unfold NS.send; rw [find_sd, hK]; rfl
    exact .err 14 (by omega) (by rw [e]) (by rw [e]; exact h)
  | some K =>
    obtain ⟨hc, hs⟩ := h.some K hK
    cases hsh : (K.way (!b)).shut
    · have e : S.send 1 (sd b) data = (((K.sent b data : Int), 0), S.setL 1 (K.send b data)) := by unfold NS.send; rw [find_sd, hK]; simp [hc, hsh]
      have hk1 : K.sent b data ≤ data.length := Nat.min_le_left _ _
      have hk2 : K.sent b data ≤ 65536 - (K.way (!b)).bytes.length := Nat.min_le_right _ _
      refine .ok (K.sent b data) hk1 (by omega) (by rw [e]) (by rw [← (hs b).2, hsh]) ?_
      rw [e]
      refine BInv.setL ⟨hc, fun s => ?_⟩
      unfold LK.send LK.setW
      simp only
      by_cases e1 : s = b
      · subst e1
        rw [updB_not', updB_not, updB_same]
        exact ⟨(hs s).1, (hs s).2⟩
      · have e2 : s = !b := by cases s <;> cases b <;> first | rfl | exact absurd rfl e1
        subst e2
        rw [Bool.not_not, updB_same, updB_same, updB_not']
        have := hs (!b)
        rw [Bool.not_not] at this
        exact ⟨by rw [this.1, List.append_assoc], this.2⟩
    · have e : S.send 1 (sd b) data = ((0, 16), S) := by unfold NS.send; rw [find_sd, hK]; simp [hc, hsh]
      exact .err 16 (by omega) (by rw [e]) (by rw [e]; exact h)

theorem BInv.move {S : NS} {se go : Bool → List UInt8} {sh : Bool → Bool} (h : BInv S se go sh) (b : Bool) (many : Int) : BInv (S.move 1 (sd b) many).2 se go sh := by
  cases hK : S.link 1 with
  | none =>
    have e : S.move 1 (sd b) many = ((0, 14), S) := by unfold NS.move; rw [find_sd, hK]; rfl
    rw [e]; exact h
  | some K =>
    obtain ⟨hc, hs⟩ := h.some K hK
    have e : S.move 1 (sd b) many = ((K.moved b many, 0), S.setL 1 (K.move b many)) := by unfold NS.move; rw [find_sd, hK]; simp [hc]
    rw [e]
    refine BInv.setL ⟨hc, fun s => ?_⟩
    have key : ∀ t, ((K.move b many).way t).bytes = (K.way t).bytes ∧ ((K.move b many).way t).shut = (K.way t).shut := fun t => by
      unfold LK.move LK.setW updB
      simp only
      split
      · rename_i e; subst e; exact ⟨rfl, rfl⟩
      · exact ⟨rfl, rfl⟩
    rw [(key s).1, (key (!s)).2]
    exact hs s

inductive Taken (S : NS) (se go : Bool → List UInt8) (sh : Bool → Bool) (b : Bool) (many : Int) : Prop
  | mk (t rest : List UInt8) (E : Int) (h1 : (S.take 1 (sd b) many).1 = (t, E)) (h2 : se (!b) = (go b ++ t) ++ rest) (h3 : E = 16 → sh (!b) = true ∧ rest = []) (h4 : BInv (S.take 1 (sd b) many).2 se (updB go b (go b ++ t)) sh)

theorem BInv.take {S : NS} {se go : Bool → List UInt8} {sh : Bool → Bool} (h : BInv S se go sh) (b : Bool) (many : Int) : Taken S se go sh b many := by
  have same : updB go b (go b ++ []) = go := by funext t; unfold updB; split; · rename_i e; subst e; simp
                                                · rfl
  cases hK : S.link 1 with
  | none =>
    have e : S.take 1 (sd b) many = (([], 14), S) := by unfold NS.take; rw [find_sd, hK]; rfl
    exact .mk [] [] 14 (by rw [e]) (by simpa using h.none hK b) (by omega) (by rw [e, same]; exact h)
  | some K =>
    obtain ⟨hc, hs⟩ := h.some K hK
    cases he : (K.way b).ended
    · by_cases h0 : (K.way b).arr = 0
      · have e : S.take 1 (sd b) many = (([], 15), S) := by unfold NS.take; rw [find_sd, hK]; simp [hc, he, h0]
        exact .mk [] (K.way b).bytes 15 (by rw [e]) (by simpa using (hs b).1) (by omega) (by rw [e, same]; exact h)
      · have e : S.take 1 (sd b) many = (((K.way b).bytes.take (K.took b many), 0), (S.setL 1 (K.take b many)).release 1 (K.take b many)) := by unfold NS.take; rw [find_sd, hK]; simp [hc, he, h0]
        refine .mk ((K.way b).bytes.take (K.took b many)) ((K.way b).bytes.drop (K.took b many)) 0 (by rw [e]) (by rw [List.append_assoc, List.take_append_drop]; exact (hs b).1) (by omega) ?_
        rw [e]
        refine BInv.release ⟨hc, fun s => ?_⟩
        unfold LK.take LK.setW
        simp only
        by_cases e1 : s = b
        · subst e1
          rw [updB_same, updB_same, updB_not]
          exact ⟨by rw [List.append_assoc, List.take_append_drop]; exact (hs s).1, (hs s).2⟩
        · have e2 : s = !b := by cases s <;> cases b <;> first | rfl | exact absurd rfl e1
          subst e2
          rw [Bool.not_not, updB_not, updB_not, updB_same]
          have := hs (!b)
          rw [Bool.not_not] at this
          exact this
    · have e : S.take 1 (sd b) many = (([], 16), S) := by unfold NS.take; rw [find_sd, hK]; simp [hc, he]
      unfold WS.ended at he
      simp only [Bool.and_eq_true, List.isEmpty_iff] at he
      refine .mk [] [] 16 (by rw [e]) (by rw [(hs b).1, he.2]; simp) (fun _ => ⟨?_, rfl⟩) (by rw [e, same]; exact h)
      have := (hs (!b)).2
      rw [Bool.not_not, he.1] at this
      exact this.symm

inductive Shutted (S : NS) (se go : Bool → List UInt8) (sh : Bool → Bool) (b : Bool) : Prop
  | ok (h1 : (S.shut 1 (sd b)).1 = 0) (h2 : BInv (S.shut 1 (sd b)).2 se go (updB sh b true))
  | err (E : Int) (h1 : E ≠ 0) (h2 : (S.shut 1 (sd b)).1 = E) (h3 : BInv (S.shut 1 (sd b)).2 se go sh)

theorem BInv.shut {S : NS} {se go : Bool → List UInt8} {sh : Bool → Bool} (h : BInv S se go sh) (b : Bool) : Shutted S se go sh b := by
  cases hK : S.link 1 with
  | none =>
    have e : S.shut 1 (sd b) = (14, S) := by unfold NS.shut; rw [find_sd, hK]; rfl
    exact .err 14 (by omega) (by rw [e]) (by rw [e]; exact h)
  | some K =>
    obtain ⟨hc, hs⟩ := h.some K hK
    cases hsh : (K.way (!b)).shut
    · have e : S.shut 1 (sd b) = (0, (S.setL 1 (K.shutS b)).release 1 (K.shutS b)) := by unfold NS.shut; rw [find_sd, hK]; simp [hc, hsh]
      refine .ok (by rw [e]) ?_
      rw [e]
      refine BInv.release ⟨hc, fun s => ?_⟩
      unfold LK.shutS LK.setW
      simp only
      by_cases e1 : s = b
      · subst e1
        rw [updB_not', updB_same, updB_same]
        exact ⟨(hs s).1, rfl⟩
      · have e2 : s = !b := by cases s <;> cases b <;> first | rfl | exact absurd rfl e1
        subst e2
        have := hs (!b)
        rw [Bool.not_not, updB_same, updB_not', updB_not]
        rw [Bool.not_not] at this
        exact ⟨this.1, this.2⟩
    · have e : S.shut 1 (sd b) = (16, S) := by unfold NS.shut; rw [find_sd, hK]; simp [hc, hsh]
      exact .err 16 (by omega) (by rw [e]) (by rw [e]; exact h)

theorem waits_bd {S : NS} (h : WF S) (conn side : Int) : 0 ≤ (S.waits conn side).1 ∧ 0 ≤ (S.waits conn side).2 ∧ (S.waits conn side).1 + (S.waits conn side).2 ≤ 65536 := by
  unfold NS.waits
  cases hf : S.find conn side with
  | none => decide
  | some p =>
    obtain ⟨s, K⟩ := p
    have := h.way conn K s (find_some hf)
    show 0 ≤ (K.way s).mov ∧ (0 : Int) ≤ (K.way s).arr ∧ (K.way s).mov + (K.way s).arr ≤ 65536
    unfold WS.mov
    omega

theorem RB.cse' {w0 w : World} {bs bg bh bo d : Nat} {o : OpV} {S : NS} {se go : Bool → List UInt8} {sh : Bool → Bool} (h : RB w0 w bs bg bh bo d o S se go sh) (b : Bool) : w.cell? ⟨bs, (1 - sd b).toNat, none⟩ = some (.string ⟨(se (!b)).toArray⟩) := by
  rw [sd_not]; exact h.cse _
theorem RB.csh' {w0 w : World} {bs bg bh bo d : Nat} {o : OpV} {S : NS} {se go : Bool → List UInt8} {sh : Bool → Bool} (h : RB w0 w bs bg bh bo d o S se go sh) (b : Bool) : w.cell? ⟨bh, (1 - sd b).toNat, none⟩ = some (.bool (sh (!b))) := by
  rw [sd_not]; exact h.csh _
theorem LoopB.next {w0 w : World} {bs bg bh bo d n k : Nat} {o : OpV} {S : NS} {se go : Bool → List UInt8} {sh : Bool → Bool} (hk : k < n) (h1 : RB w0 w bs bg bh bo d o S se go sh) (h2 : BInv S se go sh) (h3 : ∀ s, (se s).length ≤ 65536 * (k + 1)) : LoopB w0 w bs bg bh d n (.int .i64 ((k : Int) + 1)) :=
  ⟨k + 1, S, se, go, sh, hk, by simp, h1.fin, h2, h3⟩

/-- What stands behind the call of a round. -/
def CutB (w0 w : World) (bs bg bh bo d k : Nat) (o : OpV) : Prop :=
  ∃ (S : NS) (se go : Bool → List UInt8) (sh : Bool → Bool), RB w0 w bs bg bh bo d o S se go sh ∧ BInv S se go sh ∧ ∀ s, (se s).length ≤ 65536 * (k + 1)
theorem CutB.mk {w0 w : World} {bs bg bh bo d k : Nat} {o : OpV} {S : NS} {se go : Bool → List UInt8} {sh : Bool → Bool} (h1 : RB w0 w bs bg bh bo d o S se go sh) (h2 : BInv S se go sh) (h3 : ∀ s, (se s).length ≤ 65536 * (k + 1)) : CutB w0 w bs bg bh bo d k o := ⟨S, se, go, sh, h1, h2, h3⟩
theorem grown_len {se : Bool → List UInt8} {k m : Nat} {b : Bool} {data : List UInt8} (h : ∀ s, (se s).length ≤ 65536 * k) (hm : m ≤ 65536) : ∀ s, (updB se b (se b ++ data.take m) s).length ≤ 65536 * (k + 1) := by
  intro s
  have h1 := h s
  unfold updB
  split
  · have h2 := h b
    rw [List.length_append, List.length_take]
    omega
  · omega
theorem kept_len {se : Bool → List UInt8} {k : Nat} (h : ∀ s, (se s).length ≤ 65536 * k) : ∀ s, (se s).length ≤ 65536 * (k + 1) := fun s => by have := h s; omega
theorem tmod4 (x : Int) : x.tmod 4 = 0 ∨ x.tmod 4 = 1 ∨ x.tmod 4 = -1 ∨ x.tmod 4 = 2 ∨ x.tmod 4 = -2 ∨ x.tmod 4 = 3 ∨ x.tmod 4 = -3 := by
  have h1 := Int.tmod_lt_of_pos x (show (0 : Int) < 4 by omega)
  have h2 : -4 < x.tmod 4 := by
    have := Int.lt_tmod_of_pos x (show (0 : Int) < 4 by omega)
    omega
  omega

end Go.Proofs.Ythcpdeffgdaieaa
