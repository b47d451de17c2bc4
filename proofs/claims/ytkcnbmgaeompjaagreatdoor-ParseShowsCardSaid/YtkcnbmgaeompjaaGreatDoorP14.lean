/- How long a shown query is, plain. -/
import Derived.Test.YtkcnbmgaeompjaaGreatDoorP13
namespace Go.Proofs.YtkcnbmgaeompjaaGreatDoor
set_option linter.unusedVariables false

/-- What shown words come to, in bytes. -/
def wt (l : List Pc) : Nat := (l.map fun c => c.gap.length + c.x.length).sum
theorem wt_cons (c : Pc) (l : List Pc) : wt (c :: l) = c.gap.length + c.x.length + wt l := by simp [wt]
theorem wt_nil : wt [] = 0 := rfl
theorem wt_app (a b : List Pc) : wt (a ++ b) = wt a + wt b := by simp [wt]
theorem txt_wt : ∀ (l : List Pc) (z : Tx), (txt z l).length = wt l + z.length
  | [], z => by simp [txt, wt]
  | c :: l, z => by
    have : (txt z (c :: l)).length = c.gap.length + c.x.length + (txt z l).length := by simp [txt]; omega
    rw [this, txt_wt l z, wt_cons]; omega
theorem sw_x (g : Tx) (k : Nat) (t : Tx) (h : k ≠ 4) : (sw g k t).gap.length + (sw g k t).x.length = g.length + t.length := by
  unfold sw; simp only; rw [if_neg h]
theorem sw4_x (g t : Tx) : (sw g 4 t).gap.length + (sw g 4 t).x.length ≤ g.length + (2 * t.length + 2) := by
  unfold sw; simp only; rw [if_pos trivial]; have := (quote_len t).2; omega
theorem sig_x (g : Tx) (b : UInt8) : (sig g b).gap.length + (sig g b).x.length = g.length + 1 := sw_x g 5 [b] (by decide)
theorem wt_val (g : Tx) {v : Vl} (h : rightV v = true) (hf : v.Fits) : wt (valP g v) ≤ g.length + 130 := by
  unfold rightV at h
  unfold valP
  have h19 := digs_len19 v.int.natAbs (by unfold Vl.Fits at hf; omega)
  by_cases hs : v.isText = true
  · rw [if_pos hs] at h ⊢
    simp only [Bool.and_eq_true, decide_eq_true_eq] at h
    rw [wt_cons, wt_nil]
    have := sw4_x g v.text
    omega
  · rw [if_neg hs]
    split
    · rw [wt_cons, wt_cons, wt_nil, sig_x, sw_x _ _ _ (by decide)]
      simp only [List.length_nil]
      omega
    · rw [wt_cons, wt_nil, sw_x _ _ _ (by decide)]
      omega
section
variable {α : Type} {one : Tx → α → List Pc} {B : Nat}
theorem wt_rest : ∀ l : List α, (∀ a ∈ l, wt (one [32] a) ≤ B) → wt (restP one l) ≤ l.length * (B + 1)
  | [], _ => by simp [restP, wt]
  | a :: l, h => by
    rw [restP, wt_cons, sig_x, wt_app, List.length_cons, Nat.succ_mul]
    have := h a (by simp)
    have := wt_rest l fun x hx => h x (by simp [hx])
    simp only [List.length_nil]
    omega
theorem wt_sep (g : Tx) (hg : g.length ≤ 1) (l : List α) (h : ∀ a ∈ l, ∀ g : Tx, g.length ≤ 1 → wt (one g a) ≤ B) : wt (sepP one g l) ≤ l.length * (B + 1) := by
  cases l with
  | nil => simp [sepP, wt]
  | cons a l =>
    rw [sepP, wt_app, List.length_cons, Nat.succ_mul]
    have := h a (by simp) g hg
    have := wt_rest (one := one) l fun x hx => h x (by simp [hx]) [32] (by decide)
    omega
end
theorem name_len {t : Tx} (h : isNameB t = true) : t.length ≤ 32 := by
  unfold isNameB at h
  simp only [Bool.and_eq_true, decide_eq_true_eq] at h
  exact h.2
theorem wt_name (g : Tx) (hg : g.length ≤ 1) {t : Tx} (h : isNameB t = true) : wt (nameP g t) ≤ 33 := by
  unfold nameP
  rw [wt_cons, wt_nil, sw_x _ _ _ (by decide)]
  have := name_len h; omega
theorem wt_brk (g : Tx) (hg : g.length ≤ 1) (l : List Pc) : wt (brk g l) ≤ wt l + 3 := by
  unfold brk
  rw [wt_cons, wt_app, wt_cons, wt_nil, sig_x, sig_x]
  simp only [List.length_nil]
  omega
theorem calls_len : ∀ k : Nat, (callsT.getD k []).length ≤ 8 := fun k => by
  rcases Nat.lt_or_ge k 7 with h | h
  · have : ∀ k, k < 7 → (callsT.getD k []).length ≤ 8 := by decide
    exact this k h
  · rw [List.getD_eq_getElem?_getD, List.getElem?_eq_none (by exact h)]; simp
theorem signs_len : ∀ k : Nat, (signsT.getD k []).length ≤ 2 := fun k => by
  rcases Nat.lt_or_ge k 7 with h | h
  · have : ∀ k, k < 7 → (signsT.getD k []).length ≤ 2 := by decide
    exact this k h
  · rw [List.getD_eq_getElem?_getD, List.getElem?_eq_none (by exact h)]; simp
theorem wt_item (g : Tx) (hg : g.length ≤ 1) {i : It} (h : rightI i = true) : wt (itemP g i) ≤ 60 := by
  have hc : i.kind = 2 ∨ i.col.length ≤ 32 := by
    unfold rightI at h
    by_cases h2 : i.kind = 2
    · exact .inl h2
    · rw [if_neg h2] at h
      simp only [Bool.and_eq_true] at h
      exact .inr (name_len h.2)
  unfold itemP
  split
  · rw [wt_cons, wt_nil, sw_x _ _ _ (by decide)]; omega
  · split
    · simp only [wt_cons, wt_nil, sig_x, sw_x g 2 _ (by decide), List.length_nil, List.length_cons]
      omega
    · have := calls_len i.kind.toNat
      simp only [wt_cons, wt_nil, sig_x, sw_x g 2 _ (by decide), sw_x [] 1 _ (by decide), List.length_nil]
      omega
theorem wt_lst (g : Tx) (hg : g.length ≤ 1) {l : List Tx} (h16 : l.length ≤ 16) (h : ∀ t ∈ l, isNameB t = true) : wt (lstP g l) ≤ 600 := by
  unfold lstP
  have h1 := wt_brk g hg (sepP nameP [] l)
  have h2 := wt_sep (one := nameP) (B := 33) [] (by decide) l fun t ht g hg => wt_name g hg (h t ht)
  have : l.length * (33 + 1) ≤ 16 * 34 := Nat.mul_le_mul_right _ h16
  omega
theorem wt_grp (g : Tx) (hg : g.length ≤ 1) {e : Gp} (h : rightG e = true) : wt (grpP g e) ≤ 39000 := by
  unfold rightG at h
  unfold grpP
  by_cases h1 : e.kind = 1
  · rw [if_pos h1] at h ⊢
    simp only [Bool.and_eq_true, rightL_iff] at h
    rw [wt_cons, wt_nil, sw_x _ _ _ (by decide)]
    have : (e.cols.headD []).length ≤ 32 := by
      cases hc : e.cols with
      | nil => simp
      | cons t l => exact name_len (h.2.2.2 t (by rw [hc]; simp))
    omega
  · rw [if_neg h1] at h ⊢
    by_cases h2 : e.kind = 2
    · rw [if_pos (.inl h2)] at h
      rw [if_pos h2, wt_cons, sw_x _ _ _ (by decide)]
      simp only [Bool.and_eq_true, rightL_iff] at h
      have := wt_lst [] (by decide) h.2.2.1 h.2.2.2
      simp only [List.length_cons, List.length_nil]
      omega
    · rw [if_neg h2]
      by_cases h3 : e.kind = 3
      · rw [if_pos (.inr h3)] at h
        rw [if_pos h3, wt_cons, sw_x _ _ _ (by decide)]
        simp only [Bool.and_eq_true, rightL_iff] at h
        have := wt_lst [] (by decide) h.2.2.1 h.2.2.2
        simp only [List.length_cons, List.length_nil]
        omega
      · rw [if_neg h3]
        rw [if_neg (by omega)] at h
        by_cases h4 : e.kind = 4
        · rw [if_pos h4] at h
          simp only [Bool.and_eq_true, rightL_iff] at h
          rw [wt_cons, wt_cons, sw_x _ _ _ (by decide), sw_x _ _ _ (by decide)]
          have h5 := wt_brk [] (by decide) (sepP lstP [] e.sets)
          have h6 := wt_sep (one := lstP) (B := 600) [] (by decide) e.sets fun s hs g hg => wt_lst g hg (h.2.2.2 s hs).2.1 (h.2.2.2 s hs).2.2
          have : e.sets.length * (600 + 1) ≤ 64 * 601 := Nat.mul_le_mul_right _ h.2.2.1
          simp only [List.length_cons, List.length_nil]
          omega
        · rw [if_neg h4] at h; cases h
theorem wt_test (g : Tx) (hg : g.length ≤ 1) {k : Int} {col : Tx} {op : Int} {vals : List Vl} (h : testR k col op vals = true) (hf : ∀ v ∈ vals, v.Fits) : wt (testP k col op vals g) ≤ 8900 := by
  unfold testR at h
  unfold testP
  by_cases h5 : k = 5
  · subst h5
    rw [if_neg (by decide), if_pos rfl] at h
    rw [if_pos rfl]
    simp only [Bool.and_eq_true, rightL_iff] at h
    rw [wt_cons, wt_cons, sw_x _ _ _ (by decide), sw_x _ _ _ (by decide)]
    have h1 := name_len h.1.1
    have h2 := wt_brk [32] (by decide) (sepP valP [] vals)
    have h3 := wt_sep (one := valP) (B := 131) [] (by decide) vals fun v hv g hg => by
      have := wt_val g (h.2.2.2 v hv) (hf v hv); omega
    have : vals.length * (131 + 1) ≤ 64 * 132 := Nat.mul_le_mul_right _ h.2.2.1
    simp only [List.length_cons, List.length_nil]
    omega
  · rw [if_neg h5]
    by_cases h4 : k = 4
    · rw [if_pos h4] at h
      simp only [Bool.and_eq_true, rightL_iff] at h
      rw [wt_cons, wt_cons, sw_x _ _ _ (by decide), sw_x _ _ _ (by decide)]
      have h1 := name_len h.1.1.1
      have h2 := signs_len op.toNat
      obtain ⟨v, hv⟩ : ∃ v, vals = [v] := by
        have ha := h.2.1
        have hb := h.2.2.1
        cases hvs : vals with
        | nil => rw [hvs] at ha; simp at ha
        | cons v l => cases l with
          | nil => exact ⟨v, rfl⟩
          | cons _ _ => rw [hvs] at hb; simp at hb
      subst hv
      have := wt_val [32] (h.2.2.2 v (by simp)) (hf v (by simp))
      simp only [List.length_cons, List.length_nil, List.headD_cons] at this ⊢
      omega
    · rw [if_neg h4, if_neg h5] at h; cases h
theorem wt_br (k : Int) (least : Nat) (body : Tx → List Pc) (g : Tx) (hg : g.length ≤ 1) (B : Nat) (h : ∀ g : Tx, g.length ≤ 1 → wt (body g) ≤ B) : wt (brP k least body g) ≤ B + 3 := by
  unfold brP
  split
  · have := h g hg; omega
  · have := wt_brk g hg (body [])
    have := h [] (by decide)
    omega
theorem wt_node : ∀ (c : Cd), c.Right → c.Fits → ∀ g : Tx, g.length ≤ 1 → wt (nodeP c g) ≤ sizeW c * 8911
  | .none, h, _, _, _ => h.elim
  | .node k l r col op vals, h, hf, g, hg => by
    have e : sizeW (.node k l r col op vals) * 8911 = 8911 + sizeW l * 8911 + sizeW r * 8911 := by
      show (1 + sizeW l + sizeW r) * 8911 = _
      omega
    rw [e]
    obtain ⟨hf1, hf2, hf3⟩ := hf
    unfold nodeP
    rcases h with ⟨hk, rfl, rfl, rfl, hl, hr⟩ | ⟨hk, rfl, rfl, rfl, hl, rfl⟩ | ⟨rfl, rfl, ht⟩
    · have il := wt_node l hl hf1
      have ir := wt_node r hr hf2
      rcases hk with rfl | rfl
      · rw [if_neg (by decide), if_pos rfl, wt_app, wt_cons, sw_x _ _ _ (by decide)]
        have h1 := wt_br l.kind 1 (nodeP l) g hg _ il
        have h2 := wt_br r.kind 2 (nodeP r) [32] (by decide) _ ir
        simp only [List.length_cons, List.length_nil]
        omega
      · rw [if_pos rfl, wt_app, wt_cons, sw_x _ _ _ (by decide)]
        have h1 := wt_br l.kind 0 (nodeP l) g hg _ il
        have h2 := wt_br r.kind 1 (nodeP r) [32] (by decide) _ ir
        simp only [List.length_cons, List.length_nil]
        omega
    · have il := wt_node l hl hf1
      subst hk
      rw [if_neg (by decide), if_neg (by decide), if_pos rfl, wt_cons, sw_x _ _ _ (by decide)]
      have h1 := wt_br l.kind 2 (nodeP l) [32] (by decide) _ il
      simp only [List.length_cons, List.length_nil]
      omega
    · have hk := testR_kind ht
      rw [if_neg (by omega), if_neg (by omega), if_neg (by omega)]
      have := wt_test g hg ht hf3
      rw [show sizeW .none = 0 from rfl, Nat.zero_mul]
      omega
theorem rightC_size : ∀ (c : Cd) (deep n m : Nat), rightC c deep n = some m → sizeW c + m ≤ n
  | .none, _, _, _, h => by cases h
  | .node k l r col op vals, deep, n, m, h => by
    unfold rightC at h
    have e : sizeW (.node k l r col op vals) = 1 + sizeW l + sizeW r := rfl
    rw [e]
    split at h
    · cases h
    · rename_i hn
      split at h
      · split at h
        · obtain ⟨m1, h1, h2⟩ := Option.bind_eq_some_iff.1 h
          have := rightC_size l _ _ _ h1
          have := rightC_size r _ _ _ h2
          omega
        · cases h
      · split at h
        · split at h
          · rename_i hr
            have := rightC_size l _ _ _ h
            rw [hr.2]
            have : sizeW .none = 0 := rfl
            omega
          · cases h
        · split at h
          · rename_i hr
            cases h
            rw [hr.1, hr.2.1]
            have : sizeW .none = 0 := rfl
            omega
          · cases h
/-- A shown query that may be is not long. -/
theorem show_len {q : Qy} (h : rightQ q = true) (hf : q.cond.Fits) : (showT q).length ≤ 100000000 := by
  have hq := rq_of h
  unfold showT
  rw [txt_wt]
  unfold queryP
  rw [wt_cons, wt_app, wt_cons, wt_cons, wt_app, sw_x _ _ _ (by decide), sw_x _ _ _ (by decide), sw_x _ _ _ (by decide)]
  have h1 := wt_sep (one := itemP) (B := 60) [32] (by decide) q.items fun i hi g hg => wt_item g hg (hq.i3 i hi)
  have h2 : q.items.length * (60 + 1) ≤ 16 * 61 := Nat.mul_le_mul_right _ hq.i2
  have h3 := name_len hq.table
  have h4 : wt (whereP q.cond) ≤ 2048 * 8911 + 20 := by
    by_cases hc : q.cond = .none
    · rw [where_none _ hc]; simp [wt]
    · rw [where_some _ hc, wt_cons, sw_x _ _ _ (by decide)]
      have hc2 := hq.cond.resolve_left hc
      have hs : sizeW q.cond ≤ 2048 := by
        unfold rightQ at h
        simp only [Bool.and_eq_true, Bool.or_eq_true, decide_eq_true_eq] at h
        have := h.1.2.resolve_left hc
        obtain ⟨m, hm⟩ := Option.isSome_iff_exists.1 this
        have := rightC_size _ _ _ _ hm
        omega
      have := wt_br q.cond.kind 0 (nodeP q.cond) [32] (by decide) _ (wt_node q.cond hc2.1 hf)
      have : sizeW q.cond * 8911 ≤ 2048 * 8911 := Nat.mul_le_mul_right _ hs
      simp only [List.length_cons, List.length_nil]
      omega
  have h5 : wt (groupP q) ≤ 16 * 39001 + 20 := by
    unfold groupP
    split
    · rename_i hg
      obtain ⟨g1, g2, g3⟩ := hq.g1 hg
      rw [wt_cons, wt_cons, sw_x _ _ _ (by decide), sw_x _ _ _ (by decide)]
      have := wt_sep (one := grpP) (B := 39000) [32] (by decide) q.groups fun e he g hg => wt_grp g hg (g3 e he)
      have : q.groups.length * (39000 + 1) ≤ 16 * 39001 := Nat.mul_le_mul_right _ g2
      simp only [List.length_cons, List.length_nil]
      omega
    · simp [wt]
  simp only [List.length_cons, List.length_nil]
  omega
end Go.Proofs.YtkcnbmgaeompjaaGreatDoor
