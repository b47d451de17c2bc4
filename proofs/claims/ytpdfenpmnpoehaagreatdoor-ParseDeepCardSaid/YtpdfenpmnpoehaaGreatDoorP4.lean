/- How a query is shown, plain: as words, and as a text; and that the text's words are those. -/
import Derived.Test.YtpdfenpmnpoehaaGreatDoorP3
import Derived.Lib.ItoaNum
namespace Go.Proofs.YtpdfenpmnpoehaaGreatDoor
set_option linter.unusedVariables false

/-- A word as it is shown. -/
def sw (g : Tx) (k : Nat) (t : Tx) : Pc := ⟨g, k, t, if k = 4 then quoteB t else t⟩
def sig (g : Tx) (b : UInt8) : Pc := sw g 5 [b]
abbrev digs (n : Nat) : Tx := Lib.decDigits n
def valP (g : Tx) (v : Vl) : List Pc :=
  if v.isText then [sw g 4 v.text]
  else if v.int < 0 then [sig g 45, sw [] 3 (digs v.int.natAbs)] else [sw g 3 (digs v.int.natAbs)]
section
variable {α : Type}
def restP (one : Tx → α → List Pc) : List α → List Pc
  | [] => []
  | a :: l => sig [] 44 :: (one [32] a ++ restP one l)
def sepP (one : Tx → α → List Pc) (g : Tx) : List α → List Pc
  | [] => []
  | a :: l => one g a ++ restP one l
end
def nameP (g : Tx) (t : Tx) : List Pc := [sw g 1 t]
def itemP (g : Tx) (i : It) : List Pc :=
  if i.kind = 1 then [sw g 1 i.col]
  else if i.kind = 2 then [sw g 2 [67, 79, 85, 78, 84], sig [] 40, sig [] 42, sig [] 41]
  else [sw g 2 (callsT.getD i.kind.toNat []), sig [] 40, sw [] 1 i.col, sig [] 41]
def brk (g : Tx) (l : List Pc) : List Pc := sig g 40 :: (l ++ [sig [] 41])
def lstP (g : Tx) (l : List Tx) : List Pc := brk g (sepP nameP [] l)
def grpP (g : Tx) (e : Gp) : List Pc :=
  if e.kind = 1 then [sw g 1 (e.cols.headD [])]
  else if e.kind = 2 then sw g 2 [82, 79, 76, 76, 85, 80] :: lstP [] e.cols
  else if e.kind = 3 then sw g 2 [67, 85, 66, 69] :: lstP [] e.cols
  else sw g 2 [71, 82, 79, 85, 80, 73, 78, 71] :: sw [32] 2 [83, 69, 84, 83] :: brk [] (sepP lstP [] e.sets)
/-- How strongly a condition holds together. -/
def strK (k : Int) : Nat := if k = 2 then 0 else if k = 1 then 1 else if k = 3 then 2 else 3
def Cd.kind : Cd → Int
  | .none => 0
  | .node k _ _ _ _ _ => k
def brP (k : Int) (least : Nat) (body : Tx → List Pc) (g : Tx) : List Pc := if least ≤ strK k then body g else brk g (body [])
def testP (k : Int) (col : Tx) (op : Int) (vals : List Vl) (g : Tx) : List Pc :=
  if k = 5 then sw g 1 col :: sw [32] 2 [73, 78] :: brk [32] (sepP valP [] vals)
  else sw g 1 col :: sw [32] 5 (signsT.getD op.toNat []) :: valP [32] (vals.headD ⟨false, [], 0⟩)
def nodeP : Cd → Tx → List Pc
  | .none, _ => []
  | .node k l r col op vals, g =>
    if k = 2 then brP l.kind 0 (nodeP l) g ++ sw [32] 2 [79, 82] :: brP r.kind 1 (nodeP r) [32]
    else if k = 1 then brP l.kind 1 (nodeP l) g ++ sw [32] 2 [65, 78, 68] :: brP r.kind 2 (nodeP r) [32]
    else if k = 3 then sw g 2 [78, 79, 84] :: brP l.kind 2 (nodeP l) [32]
    else testP k col op vals g
def whereP (c : Cd) : List Pc := if c = .none then [] else sw [32] 2 [87, 72, 69, 82, 69] :: brP c.kind 0 (nodeP c) [32]
def groupP (q : Qy) : List Pc := if q.grouped then sw [32] 2 [71, 82, 79, 85, 80] :: sw [32] 2 [66, 89] :: sepP grpP [32] q.groups else []
def queryP (q : Qy) : List Pc :=
  sw [] 2 [83, 69, 76, 69, 67, 84] :: (sepP itemP [32] q.items ++ (sw [32] 2 [70, 82, 79, 77] :: sw [32] 1 q.table :: (whereP q.cond ++ groupP q)))
def showT (q : Qy) : Tx := txt [] (queryP q)

/-! ### what may be -/
def isNameB (t : Tx) : Bool := firstB t == 2 && t.all goB && (kwOf t).isEmpty && decide (t.length ≤ 32)
theorem isNameB_valid {t : Tx} (h : isNameB t = true) : Valid 1 t := by
  unfold isNameB at h
  simp only [Bool.and_eq_true, beq_iff_eq, decide_eq_true_eq, List.all_eq_true, List.isEmpty_iff] at h
  exact .inl ⟨rfl, h.1.1.1, h.1.1.2, h.1.2, h.2⟩
theorem isNameB_of {t : Tx} (h : Valid 1 t) : isNameB t = true := by
  rcases h with ⟨_, h1, h2, h3, h4⟩ | ⟨h, _⟩ | ⟨h, _⟩ | ⟨h, _⟩ | ⟨h, _⟩
  · unfold isNameB
    simp only [Bool.and_eq_true, beq_iff_eq, decide_eq_true_eq, List.all_eq_true, List.isEmpty_iff]
    exact ⟨⟨⟨h1, h2⟩, h3⟩, h4⟩
  all_goals omega
def rightL {α : Type} (l : List α) (least most : Nat) (one : α → Bool) : Bool := decide (least ≤ l.length) && decide (l.length ≤ most) && l.all one
def rightV (v : Vl) : Bool := if v.isText then decide (v.text.length ≤ 64) && v.int == 0 else v.text.isEmpty
def bareC (col : Tx) (op : Int) (vals : List Vl) : Bool := col.isEmpty && op == 0 && vals.isEmpty
def testR (k : Int) (col : Tx) (op : Int) (vals : List Vl) : Bool :=
  if k = 4 then isNameB col && decide (1 ≤ op) && decide (op ≤ 6) && rightL vals 1 1 rightV
  else if k = 5 then isNameB col && op == 0 && rightL vals 1 64 rightV
  else false
/-- Counting nodes while going down: what is left of n, or none. -/
def rightC : Cd → Nat → Nat → Option Nat
  | .none, _, _ => none
  | .node k l r col op vals, deep, n =>
    if deep = 0 ∨ n = 0 then none
    else if k = 1 ∨ k = 2 then (if bareC col op vals then (rightC l (deep - 1) (n - 1)).bind fun m => rightC r (deep - 1) m else none)
    else if k = 3 then (if bareC col op vals ∧ r = .none then rightC l (deep - 1) (n - 1) else none)
    else if l = .none ∧ r = .none ∧ testR k col op vals = true then some (n - 1) else none
def rightI (i : It) : Bool := if i.kind = 2 then i.col.isEmpty else decide (1 ≤ i.kind) && decide (i.kind ≤ 6) && isNameB i.col
def rightG (e : Gp) : Bool :=
  if e.kind = 1 then e.sets.isEmpty && rightL e.cols 1 1 isNameB
  else if e.kind = 2 ∨ e.kind = 3 then e.sets.isEmpty && rightL e.cols 1 16 isNameB
  else if e.kind = 4 then e.cols.isEmpty && rightL e.sets 1 64 fun s => rightL s 0 16 isNameB
  else false
def rightGs (q : Qy) : Bool := if q.grouped then rightL q.groups 1 16 rightG else q.groups.isEmpty
def rightQ (q : Qy) : Bool := rightL q.items 1 16 rightI && isNameB q.table && (decide (q.cond = .none) || (rightC q.cond 32 2048).isSome) && rightGs q
/-- Numbers within an int64, everywhere. -/
def Vl.Fits (v : Vl) : Prop := -9223372036854775808 ≤ v.int ∧ v.int ≤ 9223372036854775807
def Cd.Fits : Cd → Prop
  | .none => True
  | .node _ l r _ _ vals => l.Fits ∧ r.Fits ∧ ∀ v ∈ vals, v.Fits
def showB (q : Qy) : Tx × Nat := if rightQ q = true then (if 4096 < (showT q).length then ([], 45) else (showT q, 0)) else ([], 1)

/-! ### the words of what is shown -/
def fin (c : Pc) : Prop := c.kind = 5 → c.text ≠ [60] ∧ c.text ≠ [62]
def Okp (c : Pc) : Prop := Blank c.gap ∧ Valid c.kind c.text ∧ Stands c.kind c.text c.x ∧ c.x ≠ []
def Adj (c d : Pc) : Prop := d.gap = [32] ∨ (c.kind = 5 ∧ fin c) ∨ (c.kind ≠ 5 ∧ d.kind = 5)
def Run : List Pc → Prop
  | [] => True
  | c :: l => Okp c ∧ (∀ d, l.head? = some d → Adj c d) ∧ Run l
theorem Run.app {a b : List Pc} (ha : Run a) (hb : Run b) (hab : ∀ c d, a.getLast? = some c → b.head? = some d → Adj c d) : Run (a ++ b) := by
  induction a with
  | nil => exact hb
  | cons c a ih =>
    obtain ⟨h1, h2, h3⟩ := ha
    refine ⟨h1, fun d hd => ?_, ih h3 fun c' d hc hd => ?_⟩
    · cases a with
      | nil => exact hab c d rfl hd
      | cons e a => exact h2 d hd
    · cases a with
      | nil => cases hc
      | cons e a => exact hab c' d (by rw [List.getLast?_cons_cons]; exact hc) hd
theorem sign_head {t : Tx} (h : t ∈ signs) : ∃ b l, t = b :: l ∧ goB b = false ∧ b ≠ 39 := by
  have : ∀ t ∈ signs, (match t with | [] => false | b :: _ => !goB b && b != 39) = true := by decide +kernel
  have h2 := this t h
  cases t with
  | nil => cases h2
  | cons b l =>
    simp at h2
    exact ⟨b, l, rfl, h2.1, h2.2⟩
theorem stops_of {c d : Pc} {y : Tx} (hc : Okp c) (hd : Okp d) (h : Adj c d) : Stops c.kind c.text (d.gap ++ (d.x ++ y)) := by
  intro b hb
  have sp : b = 32 → (c.kind = 1 ∨ c.kind = 2 ∨ c.kind = 3 → goB b = false) ∧ (c.kind = 4 → b ≠ 39) ∧ (c.kind = 5 → c.text = [60] → b ≠ 62 ∧ b ≠ 61) ∧ (c.kind = 5 → c.text = [62] → b ≠ 61) := by
    rintro rfl
    exact ⟨fun _ => by decide, fun _ => by decide, fun _ _ => by decide, fun _ _ => by decide⟩
  rcases h with h | ⟨h1, h2⟩ | ⟨h1, h2⟩
  · rw [h] at hb
    exact sp (by simpa using hb.symm)
  · exact ⟨fun e => by omega, fun e => by omega, fun _ e => absurd e (h2 h1).1, fun _ e => absurd e (h2 h1).2⟩
  · have hg : d.gap = [] ∨ ∃ g l, d.gap = g :: l ∧ isBla g = true := by
      cases hgp : d.gap with
      | nil => exact .inl rfl
      | cons g l => exact .inr ⟨g, l, rfl, hd.1 g (by rw [hgp]; simp)⟩
    rcases hg with hg | ⟨g, l, hg, hbl⟩
    · have hx : d.x = d.text := by
        have := hd.2.2.1.1 (by omega)
        rwa [if_neg (by omega)] at this
      have hs : d.text ∈ signs := by
        rcases hd.2.1 with h | h | h | h | h
        · omega
        · omega
        · omega
        · omega
        · exact h.2
      obtain ⟨b', l', e1, e2, e3⟩ := sign_head hs
      rw [hg, hx, e1] at hb
      have : b' = b := by simpa using hb
      subst this
      exact ⟨fun _ => e2, fun _ => e3, fun e => absurd e h1, fun e => absurd e h1⟩
    · rw [hg] at hb
      have : g = b := by simpa using hb
      subst this
      have hbb : ∀ b : UInt8, isBla b = true → goB b = false ∧ b ≠ 39 ∧ b ≠ 62 ∧ b ≠ 61 := all_bytes (p := fun b => isBla b = true → goB b = false ∧ b ≠ 39 ∧ b ≠ 62 ∧ b ≠ 61) (by decide +kernel)
      obtain ⟨e1, e2, e3, e4⟩ := hbb g hbl
      exact ⟨fun _ => e1, fun _ => e2, fun _ _ => ⟨e3, e4⟩, fun _ _ => e4⟩
theorem Run.made : ∀ {l : List Pc}, Run l → Made [] l
  | [], _ => fun b hb => by cases hb
  | c :: l, ⟨h1, h2, h3⟩ => by
    refine ⟨h1.1, h1.2.1, h1.2.2.1, h1.2.2.2, ?_, h3.made⟩
    cases l with
    | nil => intro b hb; cases hb
    | cons d l => exact stops_of h1 h3.1 (h2 d rfl)

/-- A stretch of shown words: its first one's gap is g, its last one ends well. -/
structure Seg (g : Tx) (l : List Pc) : Prop where
  run : Run l
  head : ∃ d r, l = d :: r ∧ d.gap = g
  last : ∃ r c, l = r ++ [c] ∧ fin c
theorem Seg.one {g : Tx} {k : Nat} {t : Tx} (hg : Blank g) (hv : Valid k t) (hf : k = 5 → t ≠ [60] ∧ t ≠ [62]) : Seg g [sw g k t] := by
  refine ⟨⟨(⟨hg, hv, ?_, ?_⟩ : Okp (sw g k t)), (fun d hd => by cases hd), trivial⟩, ⟨_, _, rfl, rfl⟩, ⟨[], _, rfl, hf⟩⟩
  · refine ⟨fun _ => rfl, fun h => ?_⟩
    have h2 : k = 2 := h
    subst h2
    rcases hv with h | h | h | h | h
    · omega
    · exact kws_cap t h.2
    · omega
    · omega
    · omega
  · show (if k = 4 then quoteB t else t) ≠ []
    split
    · simp [quoteB]
    · rcases hv with h | h | h | h | h
      · intro e; have := h.2.1; rw [e] at this; cases this
      · exact kws_ne h.2
      · exact h.2.1
      · omega
      · intro e; have := h.2; rw [e] at this; revert this; decide
theorem Seg.app {g g' : Tx} {a b : List Pc} (ha : Seg g a) (hb : Seg g' b) (h : ∀ c d, fin c → b.head? = some d → a.getLast? = some c → Adj c d) : Seg g (a ++ b) := by
  obtain ⟨d, r, e, hd⟩ := ha.head
  obtain ⟨r', c, e', hc⟩ := hb.last
  obtain ⟨r2, c2, e2, hc2⟩ := ha.last
  refine ⟨ha.run.app hb.run fun c' d' h1 h2 => ?_, ⟨d, r ++ b, by rw [e]; rfl, hd⟩, ⟨a ++ r', c, by rw [e', List.append_assoc], hc⟩⟩
  have : c' = c2 := by rw [e2] at h1; simpa using h1.symm
  subst this
  exact h c' d' hc2 h2 h1
theorem Seg.app32 {g : Tx} {a b : List Pc} (ha : Seg g a) (hb : Seg [32] b) : Seg g (a ++ b) := ha.app hb fun c d _ hd _ => by
  obtain ⟨d', r, e, hg⟩ := hb.head
  rw [e] at hd
  cases hd
  exact .inl hg
theorem Seg.appSig {g g' : Tx} {a b : List Pc} (ha : Seg g a) (hb : Seg g' b) (h5 : ∀ d, b.head? = some d → d.kind = 5) : Seg g (a ++ b) := ha.app hb fun c d hf hd _ => by
  by_cases hc : c.kind = 5
  · exact .inr (.inl ⟨hc, hf⟩)
  · exact .inr (.inr ⟨hc, h5 d hd⟩)
theorem Seg.behind {g g' : Tx} {c : Pc} {b : List Pc} (hc : Seg g [c]) (hb : Seg g' b) (h5 : c.kind = 5) : Seg g (c :: b) := hc.app hb fun c' d hf hd hl => by
  have : c = c' := by simpa using hl
  subst this
  exact .inr (.inl ⟨h5, hf⟩)
theorem blank32 : Blank [32] := by intro b hb; simp at hb; subst hb; rfl
theorem blank0 : Blank [] := by intro b hb; cases hb
theorem Seg.sig {g : Tx} (hg : Blank g) (b : UInt8) (h : [b] ∈ signs) (h1 : b ≠ 60) (h2 : b ≠ 62) : Seg g [sig g b] := Seg.one hg (.inr (.inr (.inr (.inr ⟨rfl, h⟩)))) fun _ => ⟨by simpa using h1, by simpa using h2⟩
theorem Seg.kw {g : Tx} (hg : Blank g) (t : Tx) (h : t ∈ kws) : Seg g [sw g 2 t] := Seg.one hg (.inr (.inl ⟨rfl, h⟩)) (fun e => by omega)
theorem Seg.name {g : Tx} (hg : Blank g) {t : Tx} (h : isNameB t = true) : Seg g [sw g 1 t] := Seg.one hg (isNameB_valid h) (fun e => by omega)
theorem Seg.brk {g : Tx} (hg : Blank g) {l : List Pc} (h : Seg [] l) : Seg g (Go.Proofs.YtpdfenpmnpoehaaGreatDoor.brk g l) := by
  have h1 : Seg [] (l ++ [Go.Proofs.YtpdfenpmnpoehaaGreatDoor.sig [] 41]) := h.appSig (Seg.sig blank0 41 (by decide) (by decide) (by decide)) fun d hd => by cases hd; rfl
  exact (Seg.sig hg 40 (by decide) (by decide) (by decide)).behind h1 rfl
theorem Seg.brk0 {g : Tx} (hg : Blank g) : Seg g (Go.Proofs.YtpdfenpmnpoehaaGreatDoor.brk g []) := (Seg.sig hg 40 (by decide) (by decide) (by decide)).behind (Seg.sig blank0 41 (by decide) (by decide) (by decide)) rfl
section
variable {α : Type}
theorem Seg.rest {one : Tx → α → List Pc} : ∀ {l : List α}, (∀ a ∈ l, Seg [32] (one [32] a)) → ∀ {g : Tx} {x : List Pc}, Seg g x → Seg g (x ++ restP one l)
  | [], _, g, x, hx => by rw [restP, List.append_nil]; exact hx
  | a :: l, h, g, x, hx => by
    have h1 : Seg [] (Go.Proofs.YtpdfenpmnpoehaaGreatDoor.sig [] 44 :: one [32] a) := (Seg.sig blank0 44 (by decide) (by decide) (by decide)).behind (h a (by simp)) rfl
    have h2 : Seg g (x ++ (Go.Proofs.YtpdfenpmnpoehaaGreatDoor.sig [] 44 :: one [32] a)) := hx.appSig h1 fun d hd => by cases hd; rfl
    have h3 := Seg.rest (l := l) (fun b hb => h b (by simp [hb])) h2
    rw [List.append_assoc] at h3
    exact h3
theorem Seg.sep {one : Tx → α → List Pc} {g : Tx} {l : List α} (hne : l ≠ []) (h0 : ∀ a ∈ l, Seg g (one g a)) (h : ∀ a ∈ l, Seg [32] (one [32] a)) : Seg g (sepP one g l) := by
  cases l with
  | nil => exact absurd rfl hne
  | cons a l => exact Seg.rest (fun b hb => h b (by simp [hb])) (h0 a (by simp))
end
end Go.Proofs.YtpdfenpmnpoehaaGreatDoor
