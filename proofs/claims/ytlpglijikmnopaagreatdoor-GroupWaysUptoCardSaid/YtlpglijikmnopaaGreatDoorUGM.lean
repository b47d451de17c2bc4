/- What merging comes to: plain. -/
import Derived.Test.YtlpglijikmnopaaGreatDoorUG26
import Derived.Test.YtlpglijikmnopaaGreatDoorUM3
namespace Go.Proofs.YtlpglijikmnopaaGreatDoor
open Go.RowKit Go.Maps Go.Sort
set_option linter.unusedVariables false

theorem plus_zero {s : Sm} (h : s.ok) : plusS s ⟨0, 0⟩ = s := by
  unfold Sm.ok at h
  unfold plusS w64
  ext <;> simp only <;> omega
theorem zero_plus {s : Sm} (h : s.ok) : plusS ⟨0, 0⟩ s = s := by rw [plusS_comm, plus_zero h]
/-- A part that may be. -/
def Ptz (p : Pt) : Prop := p.ok ∧ (p.any = false → p = Pt.zero)
theorem withP_bothP {p q : Pt} (hp : Ptz p) (hq : Ptz q) {x : Int} (hx : i64' x) : withP (bothP p q) x = bothP p (withP q x) := by
  cases h1 : p.any with
  | false =>
    rw [hp.2 h1]
    cases h2 : q.any with
    | false => rw [hq.2 h2]; rfl
    | true =>
      have e1 : bothP Pt.zero q = q := by unfold bothP; rw [if_neg (by decide), if_pos h2]
      have e2 : bothP Pt.zero (withP q x) = withP q x := by unfold bothP; rw [if_neg (by decide)]; rfl
      rw [e1, e2]
  | true =>
    cases h2 : q.any with
    | false =>
      rw [hq.2 h2]
      unfold bothP withP addS
      simp only [h1, Pt.zero, if_true, if_false, Bool.false_eq_true]
      rw [zero_plus (ofS_ok hx)]
    | true =>
      unfold bothP withP addS
      simp only [h1, h2, if_true, plusS_assoc]
      simp only [Int.min_assoc, Int.max_assoc]
theorem both_zero {p : Pt} (hp : Ptz p) : bothP p Pt.zero = p := by
  unfold bothP
  cases h : p.any with
  | true => simp [Pt.zero]
  | false => rw [hp.2 h]; rfl
def Ga (n : Nat) (a : Ac) : Prop := i64' a.count ∧ a.parts.length = n ∧ ∀ p ∈ a.parts, Ptz p
theorem takeL_ptz : ∀ (l : List Pt) (ns : List Int), (∀ p ∈ l, Ptz p) → (∀ x ∈ ns, i64' x) → ∀ p ∈ takeL l ns, Ptz p
  | [], ns, h, hn, p, hp => by simp [takeL] at hp
  | q :: l, [], h, hn, p, hp => h p hp
  | q :: l, n :: ns, h, hn, p, hp => by
    have hp' : p ∈ withP q n :: takeL l ns := hp
    rcases List.mem_cons.1 hp' with rfl | hp'
    · exact ⟨withP_ok (h q (by simp)).1 (hn n (by simp)), fun e => by cases e⟩
    · exact takeL_ptz l ns (fun r hr => h r (by simp [hr])) (fun x hx => hn x (by simp [hx])) p hp'
theorem takeL_merge : ∀ (l m : List Pt) (ns : List Int), l.length = m.length → (∀ p ∈ l, Ptz p) → (∀ p ∈ m, Ptz p) → (∀ x ∈ ns, i64' x) → takeL (mergeL l m) ns = mergeL l (takeL m ns)
  | [], [], ns, _, _, _, _ => rfl
  | p :: l, q :: m, [], _, _, _, _ => rfl
  | p :: l, q :: m, n :: ns, hl, h1, h2, hn => by
    show withP (bothP p q) n :: takeL (mergeL l m) ns = bothP p (withP q n) :: mergeL l (takeL m ns)
    rw [withP_bothP (h1 p (by simp)) (h2 q (by simp)) (hn n (by simp)), takeL_merge l m ns (by simpa using hl) (fun r hr => h1 r (by simp [hr])) (fun r hr => h2 r (by simp [hr])) fun x hx => hn x (by simp [hx])]
theorem mergeL_zero : ∀ (l : List Pt), (∀ p ∈ l, Ptz p) → mergeL l (List.replicate l.length Pt.zero) = l
  | [], _ => rfl
  | p :: l, h => by
    show bothP p Pt.zero :: mergeL l (List.replicate l.length Pt.zero) = p :: l
    rw [both_zero (h p (by simp)), mergeL_zero l fun r hr => h r (by simp [hr])]
theorem ac_eq {a b : Int} {l m : List Pt} (h : a = b) (k : l = m) : (⟨a, l⟩ : Ac) = ⟨b, m⟩ := by rw [h, k]
theorem w64_in {n : Int} (h : i64' n) : w64 n = n := by unfold i64' at h; unfold w64; omega
theorem w64_i64 (n : Int) : i64' (w64 n) := by unfold i64' w64; omega
theorem ga_new (m : Int) : Ga (newA m).parts.length (newA m) := ⟨by unfold newA i64'; simp, rfl, fun p hp => by
  unfold newA at hp
  rw [(List.mem_replicate.1 hp).2]
  exact ⟨zero_ok, fun _ => rfl⟩⟩
theorem Ga.take {n : Nat} {a : Ac} (h : Ga n a) {ns : List Int} (hn : ∀ x ∈ ns, i64' x) : Ga n (takeA a ns) :=
  ⟨w64_i64 _, by unfold takeA; simp only; rw [takeL_len]; exact h.2.1, takeL_ptz _ _ h.2.2 hn⟩
theorem take_merge {n : Nat} {a b : Ac} (ha : Ga n a) (hb : Ga n b) {ns : List Int} (hn : ∀ x ∈ ns, i64' x) : takeA (mergeA a b) ns = mergeA a (takeA b ns) := by
  unfold takeA mergeA
  refine ac_eq ?_ (takeL_merge _ _ _ (ha.2.1.trans hb.2.1.symm) ha.2.2 hb.2.2 hn)
  simp only
  unfold w64
  omega
theorem merge_new {m : Int} {a : Ac} (ha : Ga (newA m).parts.length a) : mergeA a (newA m) = a := by
  have h : (newA m).parts = List.replicate a.parts.length Pt.zero := by
    rw [ha.2.1]; unfold newA; simp
  unfold mergeA
  rw [h, mergeL_zero _ ha.2.2]
  refine ac_eq ?_ rfl
  show w64 (a.count + 0) = a.count
  rw [Int.add_zero, w64_in ha.1]
theorem merge_zA {n : Nat} {a : Ac} (ha : Ga n a) : mergeA zA a = a := by
  unfold mergeA zA
  refine ac_eq ?_ ?_
  · show w64 (0 + a.count) = a.count
    rw [Int.zero_add, w64_in ha.1]
  · cases a.parts <;> rfl
/-- What is kept of some facts. -/
def FT (m : Int) (c : List (List Int)) : Ac := c.foldl takeA (newA m)
def Cok (c : List (List Int)) : Prop := ∀ ns ∈ c, ∀ x ∈ ns, i64' x
theorem ga_fold {n : Nat} : ∀ (c : List (List Int)) (b : Ac), Ga n b → Cok c → Ga n (c.foldl takeA b)
  | [], b, h, _ => h
  | x :: c, b, h, hc => ga_fold c _ (h.take (hc x (by simp))) fun y hy => hc y (by simp [hy])
theorem ga_FT (m : Int) {c : List (List Int)} (h : Cok c) : Ga (newA m).parts.length (FT m c) := ga_fold c _ (ga_new m) h
theorem merge_fold {n : Nat} {a : Ac} (ha : Ga n a) : ∀ (c : List (List Int)) (b : Ac), Ga n b → Cok c → mergeA a (c.foldl takeA b) = c.foldl takeA (mergeA a b)
  | [], b, _, _ => rfl
  | x :: c, b, h, hc => by
    rw [List.foldl_cons, List.foldl_cons, take_merge ha h (hc x (by simp))]
    exact merge_fold ha c _ (h.take (hc x (by simp))) fun y hy => hc y (by simp [hy])
theorem merge_FT (m : Int) {c d : List (List Int)} (hc : Cok c) (hd : Cok d) : mergeA (FT m c) (FT m d) = FT m (c ++ d) := by
  have e1 : mergeA (FT m c) (FT m d) = d.foldl takeA (mergeA (FT m c) (newA m)) := merge_fold (ga_FT m hc) d _ (ga_new m) hd
  rw [e1, merge_new (ga_FT m hc)]
  unfold FT
  rw [List.foldl_append]
theorem Cok.app {c d : List (List Int)} (hc : Cok c) (hd : Cok d) : Cok (c ++ d) := fun ns h => by
  rcases List.mem_append.1 h with h | h
  · exact hc ns h
  · exact hd ns h
theorem fold_FT (m : Int) : ∀ (cs : List (List (List Int))) (c : List (List Int)), Cok c → (∀ d ∈ cs, Cok d) → (cs.map (FT m)).foldl mergeA (FT m c) = FT m (c ++ cs.flatten)
  | [], c, _, _ => by simp
  | d :: cs, c, hc, h => by
    rw [List.map_cons, List.foldl_cons, merge_FT m hc (h d (by simp)), fold_FT m cs _ (hc.app (h d (by simp))) fun e he => h e (by simp [he])]
    simp
theorem FT_perm (m : Int) {c d : List (List Int)} (h : c.Perm d) : FT m c = FT m d := takeA_perm h _
theorem acc_of_cs (m : Int) {cs : List (List (List Int))} {d : List (List Int)} (hne : ∀ c ∈ cs, c ≠ []) (hok : ∀ c ∈ cs, Cok c) (hp : cs.flatten.Perm d) : accG mergeA zA (cs.map (FT m)) = accG takeA (newA m) d := by
  cases cs with
  | nil =>
    have : d = [] := List.nil_perm.1 hp
    subst this
    rfl
  | cons c cs =>
    have hd : d ≠ [] := by
      rintro rfl
      have := List.perm_nil.1 hp
      rw [List.flatten_cons] at this
      exact hne c (by simp) (List.append_eq_nil_iff.1 this).1
    have e1 : accG mergeA zA ((c :: cs).map (FT m)) = some (((c :: cs).map (FT m)).foldl mergeA zA) := rfl
    have e2 : accG takeA (newA m) d = some (FT m d) := by
      cases d with
      | nil => exact absurd rfl hd
      | cons x d => rfl
    rw [e1, e2, List.map_cons, List.foldl_cons, merge_zA (ga_FT m (hok c (by simp))), fold_FT m cs _ (hok c (by simp)) fun e he => hok e (by simp [he])]
    exact congrArg some (FT_perm m (by simpa using hp))
theorem atK_of_mem : ∀ {l : List Rw}, Srt l → ∀ r ∈ l, atK l r.key = some r.acc
  | [], _, r, hr => by cases hr
  | s :: l, h, r, hr => by
    rw [atK_cons]
    obtain ⟨h1, h2⟩ := List.pairwise_cons.1 h
    rcases List.mem_cons.1 hr with rfl | hr
    · rw [if_pos rfl]
    · have := h1 r hr
      rw [if_neg (fun e => ky_irrefl _ (e ▸ this))]
      exact atK_of_mem h2 r hr
theorem grp_acc (m : Int) (es : List (Ky × List Int)) {r : Rw} (hr : r ∈ grpL takeA (newA m) es) : colG es r.key ≠ [] ∧ r.acc = FT m (colG es r.key) := by
  have h := atK_of_mem (grp_srt takeA (newA m) es) r hr
  rw [at_grp] at h
  cases hc : colG es r.key with
  | nil => rw [hc] at h; cases h
  | cons x c =>
    rw [hc] at h
    exact ⟨by simp, (Option.some.inj h).symm⟩
theorem col_mem {γ : Type} {es : List (Ky × γ)} {e : Ky × γ} (he : e ∈ es) : e.2 ∈ colG es e.1 := by
  unfold colG
  exact List.mem_map.2 ⟨e, List.mem_filter.2 ⟨he, by simp⟩, rfl⟩
theorem grp_key {γ : Type} (step : Ac → γ → Ac) (z : Ac) {es : List (Ky × γ)} {e : Ky × γ} (he : e ∈ es) : ∃ r ∈ grpL step z es, r.key = e.1 := by
  refine atK_some.1 ?_
  rw [at_grp]
  have := col_mem he
  cases hc : colG es e.1 with
  | nil => rw [hc] at this; cases this
  | cons x c => rfl
theorem srt_nodup {l : List Rw} (h : Srt l) : (l.map Rw.key).Nodup := by
  unfold List.Nodup
  rw [List.pairwise_map]
  have hi : ∀ {a b : Rw}, a.key < b.key → a.key ≠ b.key := fun {a b} hab (e : a.key = b.key) => ky_irrefl b.key (by rw [e] at hab; exact hab)
  exact List.Pairwise.imp (R := fun a b : Rw => a.key < b.key) hi h
theorem flat_ins {γ : Type} (g : Ky → List γ) (k0 : Ky) (x : γ) : ∀ (ks : List Ky), ks.Nodup → (ks.flatMap fun k => if k0 = k then x :: g k else g k).Perm (if k0 ∈ ks then x :: ks.flatMap g else ks.flatMap g)
  | [], _ => by simp
  | k :: ks, h => by
    obtain ⟨h1, h2⟩ := List.nodup_cons.1 h
    have ih := flat_ins g k0 x ks h2
    rw [List.flatMap_cons, List.flatMap_cons]
    by_cases e : k0 = k
    · subst e
      rw [if_neg h1] at ih
      rw [if_pos rfl, if_pos (by simp)]
      exact (ih.append_left (g k0)).cons x
    · rw [if_neg e]
      by_cases h3 : k0 ∈ ks
      · rw [if_pos h3] at ih
        rw [if_pos (by simp [h3])]
        exact (ih.append_left _).trans List.perm_middle
      · rw [if_neg h3] at ih
        rw [if_neg (by simp [h3, e])]
        exact ih.append_left _
theorem colG_cons {γ : Type} (e : Ky × γ) (es : List (Ky × γ)) (k : Ky) : colG (e :: es) k = if e.1 = k then e.2 :: colG es k else colG es k := by
  unfold colG
  by_cases h : e.1 = k
  · rw [if_pos h]; simp [h]
  · rw [if_neg h]; simp [h]
def mapF {γ : Type} (f : Ky → Ky) (es : List (Ky × γ)) : List (Ky × γ) := es.map fun e => (f e.1, e.2)
theorem col_flat {γ : Type} (f : Ky → Ky) (k' : Ky) (ks : List Ky) (hn : ks.Nodup) : ∀ es : List (Ky × γ), (∀ e ∈ es, e.1 ∈ ks) → ((ks.filter fun k => decide (f k = k')).flatMap fun k => colG es k).Perm (colG (mapF f es) k')
  | [], _ => by
    have : ∀ l : List Ky, (l.flatMap fun k => colG ([] : List (Ky × γ)) k) = [] := fun l => by simp [colG]
    rw [this]
    exact List.Perm.refl _
  | e :: es, h => by
    have ih := col_flat f k' ks hn es fun x hx => h x (by simp [hx])
    have e1 : (fun k => colG (e :: es) k) = fun k => if e.1 = k then e.2 :: colG es k else colG es k := funext fun k => colG_cons e es k
    rw [e1]
    refine (flat_ins (fun k => colG es k) e.1 e.2 _ (hn.filter _)).trans ?_
    show List.Perm _ (colG ((f e.1, e.2) :: mapF f es) k')
    rw [colG_cons]
    have hk := h e (by simp)
    by_cases h2 : f e.1 = k'
    · rw [if_pos h2, if_pos (List.mem_filter.2 ⟨hk, by simp [h2]⟩)]
      exact ih.cons _
    · rw [if_neg h2, if_neg (fun h3 => h2 (by simpa using (List.mem_filter.1 h3).2))]
      exact ih
def Eok (es : List (Ky × List Int)) : Prop := ∀ e ∈ es, ∀ x ∈ e.2, i64' x
theorem Eok.col {es : List (Ky × List Int)} (h : Eok es) (k : Ky) : Cok (colG es k) := fun ns hns => by
  unfold colG at hns
  obtain ⟨e, he, rfl⟩ := List.mem_map.1 hns
  exact h e (List.mem_filter.1 he).1
theorem grp_keys_mem {γ : Type} (step : Ac → γ → Ac) (z : Ac) (es : List (Ky × γ)) : ∀ e ∈ es, e.1 ∈ (grpL step z es).map Rw.key := fun e he => by
  obtain ⟨r, hr, e1⟩ := grp_key step z he
  exact List.mem_map.2 ⟨r, hr, e1⟩
/-- What the rows of one key come to, once keys are cut. -/
theorem reg_cs (m : Int) (f : Ky → Ky) {es : List (Ky × List Int)} (hes : Eok es) (k' : Ky) : ∃ cs : List (List (List Int)), colG ((grpL takeA (newA m) es).map fun r => (f r.key, r.acc)) k' = cs.map (FT m) ∧ (∀ c ∈ cs, c ≠ []) ∧ (∀ c ∈ cs, Cok c) ∧ cs.flatten.Perm (colG (mapF f es) k') := by
  refine ⟨(((grpL takeA (newA m) es).map Rw.key).filter fun k => decide (f k = k')).map (colG es), ?_, ?_, ?_, ?_⟩
  · rw [List.map_map]
    unfold colG
    rw [List.filter_map, List.filter_map, List.map_map, List.map_map]
    refine List.map_congr_left fun r hr => ?_
    exact (grp_acc m es (List.mem_filter.1 hr).1).2
  · intro c hc
    obtain ⟨k, hk, rfl⟩ := List.mem_map.1 hc
    obtain ⟨r, hr, rfl⟩ := List.mem_map.1 (List.mem_filter.1 hk).1
    exact (grp_acc m es hr).1
  · intro c hc
    obtain ⟨k, hk, rfl⟩ := List.mem_map.1 hc
    exact hes.col k
  · have := col_flat f k' _ (srt_nodup (grp_srt takeA (newA m) es)) es (grp_keys_mem takeA (newA m) es)
    rwa [List.flatMap_def] at this
/-- Groups of groups are groups. -/
theorem regroup_grp (m : Int) (f : Ky → Ky) {es : List (Ky × List Int)} (hes : Eok es) : grpL mergeA zA ((grpL takeA (newA m) es).map fun r => (f r.key, r.acc)) = grpL takeA (newA m) (mapF f es) := by
  refine grp_of takeA (newA m) _ (grp_srt ..) fun k' => ?_
  rw [at_grp]
  obtain ⟨cs, h1, h2, h3, h4⟩ := reg_cs m f hes k'
  rw [h1]
  exact acc_of_cs m h2 h3 h4
theorem mapF_id {γ : Type} (es : List (Ky × γ)) : mapF (fun k => k) es = es := by unfold mapF; simp
/-- Groups of two lists, merged, are groups of both. -/
theorem both_grp (m : Int) {es fs : List (Ky × List Int)} (hes : Eok es) (hfs : Eok fs) : grpL mergeA zA (pairs (grpL takeA (newA m) es ++ grpL takeA (newA m) fs)) = grpL takeA (newA m) (es ++ fs) := by
  refine grp_of takeA (newA m) _ (grp_srt ..) fun k' => ?_
  rw [at_grp]
  obtain ⟨cs, h1, h2, h3, h4⟩ := reg_cs m (fun k => k) hes k'
  obtain ⟨ds, i1, i2, i3, i4⟩ := reg_cs m (fun k => k) hfs k'
  rw [mapF_id] at h4 i4
  have e1 : colG (pairs (grpL takeA (newA m) es ++ grpL takeA (newA m) fs)) k' = (cs ++ ds).map (FT m) := by
    rw [List.map_append, ← h1, ← i1]
    unfold pairs colG
    rw [List.map_append, List.filter_append, List.map_append]
  rw [e1]
  refine acc_of_cs m (fun c hc => ?_) (fun c hc => ?_) ?_
  · rcases List.mem_append.1 hc with h | h
    · exact h2 c h
    · exact i2 c h
  · rcases List.mem_append.1 hc with h | h
    · exact h3 c h
    · exact i3 c h
  · rw [List.flatten_append]
    have e2 : colG (es ++ fs) k' = colG es k' ++ colG fs k' := by unfold colG; rw [List.filter_append, List.map_append]
    rw [e2]
    exact h4.append i4
/-! ### counts -/
theorem fold_count : ∀ (c : List (List Int)) (b : Ac), 0 ≤ b.count → b.count + c.length ≤ 9223372036854775807 → (c.foldl takeA b).count = b.count + c.length
  | [], b, _, _ => by simp
  | x :: c, b, h0, h => by
    have hl : ((x :: c).length : Int) = c.length + 1 := by simp
    have e : (takeA b x).count = b.count + 1 := by
      unfold takeA
      show w64 (b.count + 1) = b.count + 1
      exact w64_in (by unfold i64'; omega)
    rw [List.foldl_cons, fold_count c _ (by omega) (by omega), e]
    omega
theorem FT_count (m : Int) {c : List (List Int)} (h : c.length ≤ 4000000) : (FT m c).count = c.length := by
  have e : (newA m).count = 0 := rfl
  have := fold_count c (newA m) (by omega) (by omega)
  rw [e] at this
  unfold FT
  omega
def sumC (l : List Rw) : Int := (l.map fun r => r.acc.count).sum
theorem sum_len {γ : Type} (g : Ky → List γ) : ∀ ks : List Ky, ((ks.map fun k => ((g k).length : Int)).sum) = ((ks.flatMap g).length : Int)
  | [] => rfl
  | k :: ks => by rw [List.map_cons, List.sum_cons, sum_len g ks, List.flatMap_cons, List.length_append]; omega
theorem col_len {γ : Type} (es : List (Ky × γ)) (k : Ky) : (colG es k).length ≤ es.length := by
  unfold colG
  rw [List.length_map]
  exact List.length_filter_le _ _
/-- The counts of the rows whose keys are cut to one. -/
theorem sum_cut (m : Int) (f : Ky → Ky) (k' : Ky) {es : List (Ky × List Int)} (hl : es.length ≤ 4000000) : sumC ((grpL takeA (newA m) es).filter fun r => decide (f r.key = k')) = ((colG (mapF f es) k').length : Int) := by
  have h := (col_flat f k' _ (srt_nodup (grp_srt takeA (newA m) es)) es (grp_keys_mem takeA (newA m) es)).length_eq
  rw [← h, ← sum_len]
  unfold sumC
  rw [List.filter_map, List.map_map]
  refine congrArg List.sum (List.map_congr_left fun r hr => ?_)
  rw [(grp_acc m es (List.mem_filter.1 hr).1).2]
  exact FT_count m (Nat.le_trans (col_len _ _) hl)
theorem sum_grp (m : Int) {es : List (Ky × List Int)} (hl : es.length ≤ 4000000) : sumC (grpL takeA (newA m) es) = (es.length : Int) := by
  have h := sum_cut m (fun _ => []) [] hl
  rw [List.filter_eq_self.2 (by simp)] at h
  rw [h]
  unfold colG mapF
  rw [List.filter_eq_self.2 fun e he => by
    obtain ⟨x, _, rfl⟩ := List.mem_map.1 he
    simp]
  simp
theorem grp_len {γ : Type} (step : Ac → γ → Ac) (z : Ac) (es : List (Ky × γ)) : (grpL step z es).length ≤ es.length := by
  induction es using snoc_ind with
  | h0 => simp [grpL]
  | h1 l x ih =>
    rw [grp_snoc]
    have : ∀ (l : List Rw) (k : Ky) (y : γ), (insG step z l k y).length ≤ l.length + 1 := by
      intro l
      induction l with
      | nil => intro k y; simp [insG]
      | cons r l ih =>
        intro k y
        unfold insG
        split
        · have := ih k y; simp; omega
        · split <;> simp
    have h2 := this (grpL step z l) x.1 x.2
    simp
    omega
end Go.Proofs.YtlpglijikmnopaaGreatDoor
