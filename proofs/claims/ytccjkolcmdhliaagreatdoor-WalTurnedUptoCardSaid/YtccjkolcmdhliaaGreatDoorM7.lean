/- What stands in a segment's bytes, and what a scan of them tells (plain). -/
import Derived.Test.YtccjkolcmdhliaaGreatDoorM5
import Derived.Sort.KeysCollected
import Derived.Deep.QuietTactic
namespace Go.Proofs.YtccjkolcmdhliaaGreatDoor
open Go.RowKit Go.Maps
set_option linter.unusedVariables false

theorem unf_frame (l s : List UInt8) (hl : l.length ≤ 65536) : unfR (frameR l ++ s) = (l, l.length + 8, 0) := by
  have hlow : num (low l.length 4) = l.length := num_low_of (by omega)
  have hcrc : num (low (crc l) 4) = crc l := num_low_of (by have := crc_lt l; omega)
  have e1 : (frameR l ++ s).take 4 = low l.length 4 := by
    unfold frameR
    rw [List.append_assoc, List.append_assoc]
    exact List.take_left' (low_len 4 _)
  have e2 : (frameR l ++ s).drop 4 = low (crc l) 4 ++ (l ++ s) := by
    unfold frameR
    rw [List.append_assoc, List.append_assoc]
    exact List.drop_left' (low_len 4 _)
  have e3 : (frameR l ++ s).drop 8 = l ++ s := by
    have : (frameR l ++ s).drop 8 = ((frameR l ++ s).drop 4).drop 4 := by rw [List.drop_drop]
    rw [this, e2]
    exact List.drop_left' (low_len 4 _)
  have e4 : ((frameR l ++ s).drop 4).take 4 = low (crc l) 4 := by rw [e2]; exact List.take_left' (low_len 4 _)
  have e5 : (l ++ s).take l.length = l := List.take_left' rfl
  have hlen : (frameR l ++ s).length = l.length + 8 + s.length := by rw [List.length_append, frameR_len]; omega
  unfold unfR
  rw [e1, hlow, e3, e4, hcrc, e5, if_neg (by omega), if_neg (by omega), if_neg (by omega), if_neg (by simp), Nat.add_comm]
theorem frame_take4 (l : List UInt8) (m : Nat) (hm : 4 ≤ m) : ((frameR l).take m).take 4 = low l.length 4 := by
  rw [List.take_take, Nat.min_eq_left hm]
  unfold frameR
  rw [List.append_assoc]
  exact List.take_left' (low_len 4 _)
/-- A frame that is cut short is short. -/
theorem unf_cutF (l : List UInt8) (hl : l.length ≤ 65536) (m : Nat) (hm : m < (frameR l).length) : (unfR ((frameR l).take m)).2.2 = 20 := by
  have hF := frameR_len l
  have hlen : ((frameR l).take m).length = m := by rw [List.length_take]; omega
  unfold unfR
  by_cases h8 : m < 8
  · rw [if_pos (by omega)]
  · rw [if_neg (by omega), frame_take4 l m (by omega), num_low_of (by omega), if_neg (by omega), if_pos (by omega)]
/-- One byte of the body turned: the check tells. -/
theorem unf_turned (l : List UInt8) (hl : l.length ≤ 65536) (q : Nat) (hq : q < l.length) (c : UInt8) (hc : c ≠ l[q]) :
    (unfR ((frameR l).take (8 + q) ++ [c] ++ (frameR l).drop (8 + q + 1))).2.2 = 21 := by
  have hh : (low l.length 4 ++ low (crc l) 4).length = 8 := by simp [low_len]
  have e1 : (frameR l).take (8 + q) = low l.length 4 ++ low (crc l) 4 ++ l.take q := by
    unfold frameR
    rw [List.take_append, hh, List.take_of_length_le (by omega), Nat.add_sub_cancel_left]
  have e2 : (frameR l).drop (8 + q + 1) = l.drop (q + 1) := by
    unfold frameR
    rw [List.drop_append, hh, List.drop_of_length_le (by omega), List.nil_append]
    congr 1; omega
  have e3 : (frameR l).take (8 + q) ++ [c] ++ (frameR l).drop (8 + q + 1) = low l.length 4 ++ (low (crc l) 4 ++ (l.take q ++ c :: l.drop (q + 1))) := by
    rw [e1, e2]; simp
  have hbl : (l.take q ++ c :: l.drop (q + 1)).length = l.length := by simp; omega
  have hne : crc (l.take q ++ c :: l.drop (q + 1)) ≠ crc l := by
    have hl' : l = l.take q ++ l[q] :: l.drop (q + 1) := by rw [← List.drop_eq_getElem_cons hq, List.take_append_drop]
    intro h
    exact crc_turned (l.take q) (l.drop (q + 1)) c l[q] hc (by rw [h]; rw [← hl'])
  rw [e3]
  clear e1 e2 e3 hh hc hq
  generalize l.take q ++ c :: l.drop (q + 1) = B at *
  have h4 : (low l.length 4 ++ (low (crc l) 4 ++ B)).take 4 = low l.length 4 := List.take_left' (low_len 4 _)
  have d4 : (low l.length 4 ++ (low (crc l) 4 ++ B)).drop 4 = low (crc l) 4 ++ B := List.drop_left' (low_len 4 _)
  have d8 : (low l.length 4 ++ (low (crc l) 4 ++ B)).drop 8 = B := by
    have : ∀ X : List UInt8, X.drop 8 = (X.drop 4).drop 4 := fun X => by rw [List.drop_drop]
    rw [this, d4]; exact List.drop_left' (low_len 4 _)
  have t4 : (low (crc l) 4 ++ B).take 4 = low (crc l) 4 := List.take_left' (low_len 4 _)
  have hlen : (low l.length 4 ++ (low (crc l) 4 ++ B)).length = 8 + l.length := by simp [low_len]; omega
  have hb : B.take l.length = B := List.take_of_length_le (by omega)
  unfold unfR
  rw [h4, num_low_of (by omega), d8, hb, d4, t4, num_low_of (by have := crc_lt l; omega), hlen]
  rw [if_neg (by omega), if_neg (by omega), if_neg (by omega), if_pos hne]

theorem rtake_all (n : Nat) (b R : List UInt8) (hb : b.length = n) : RS.take ⟨b ++ R, 0⟩ n = (b, ⟨R, 0⟩) := by
  unfold RS.take
  rw [if_pos rfl, if_neg (by simp; omega)]
  simp [← hb]
/-- What a record's bytes say. -/
theorem unRec_body (n : Int) (d : List UInt8) (hn : -9223372036854775808 ≤ n ∧ n ≤ 9223372036854775807) (hd : d.length ≤ 4294967295) : unRec (body n d) = (⟨n, d⟩, 0) := by
  have e1 : RS.int ⟨body n d, 0⟩ = (n, ⟨low d.length 4 ++ d, 0⟩) := by
    unfold RS.int body
    rw [rtake_all 8 _ _ (enc8_len n)]
    have e : IntKind.i64.wrap ((num (enc8 n) : Nat) : Int) = n := by
      unfold enc8
      rw [num_low_of (by omega), IntKind.wrap_i64]
      omega
    simp only [e]
  have e2 : RS.many ⟨low d.length 4 ++ d, 0⟩ 1 = (d.length, ⟨d, 0⟩) := by
    unfold RS.many
    rw [rtake_all 4 _ _ (low_len 4 _)]
    simp only [num_low_of (show d.length < 256 ^ 4 by omega)]
    rw [if_neg (by simp)]
  have e3 : RS.text ⟨low d.length 4 ++ d, 0⟩ = (d, ⟨[], 0⟩) := by
    unfold RS.text
    rw [e2]
    have := rtake_all d.length d [] rfl
    rwa [List.append_nil] at this
  unfold unRec
  rw [e1]
  simp only
  rw [e3]
  simp only
  rw [if_pos (by unfold RS.done; simp)]

/-! ### records one behind the other -/
def frames : List (List UInt8) → Nat → List UInt8
  | [], _ => []
  | d :: ds, i => frameR (body ((i + 1 : Nat) : Int) d) ++ frames ds (i + 1)
def recsOf : List (List UInt8) → Nat → List RcP
  | [], _ => []
  | d :: ds, i => ⟨((i + 1 : Nat) : Int), d⟩ :: recsOf ds (i + 1)
def Small (ds : List (List UInt8)) : Prop := ∀ d ∈ ds, d.length ≤ 65524
/-- No whole frame, but none that is wrong. -/
def Torn (t : List UInt8) : Prop := t = [] ∨ (unfR t).2.2 = 20
def After (rs : List RcP) (i : Nat) : Prop := rs = [] ∨ ∃ q, rs.getLast? = some q ∧ q.seq = i ∧ 1 ≤ i
theorem recsOf_len : ∀ (ds : List (List UInt8)) (i : Nat), (recsOf ds i).length = ds.length
  | [], _ => rfl
  | d :: ds, i => by rw [recsOf, List.length_cons, recsOf_len ds, List.length_cons]
theorem frames_append : ∀ (a b : List (List UInt8)) (i : Nat), frames (a ++ b) i = frames a i ++ frames b (i + a.length)
  | [], b, i => by simp [frames]
  | d :: a, b, i => by
    rw [List.cons_append, frames, frames, frames_append a b, List.append_assoc, List.length_cons]
    congr 3; omega
theorem recsOf_append : ∀ (a b : List (List UInt8)) (i : Nat), recsOf (a ++ b) i = recsOf a i ++ recsOf b (i + a.length)
  | [], b, i => by simp [recsOf]
  | d :: a, b, i => by
    rw [List.cons_append, recsOf, recsOf, recsOf_append a b, List.cons_append, List.length_cons]
    congr 3; omega
theorem recsOf_get : ∀ (ds : List (List UInt8)) (i j : Nat) (hj : j < ds.length), (recsOf ds i)[j]? = some ⟨((i + j + 1 : Nat) : Int), ds[j]⟩
  | d :: ds, i, 0, _ => by simp [recsOf]
  | d :: ds, i, j + 1, hj => by
    rw [recsOf, List.getElem?_cons_succ, recsOf_get ds (i + 1) j (by simpa using hj)]
    simp only [List.getElem_cons_succ, Option.some.injEq, RcP.mk.injEq, and_true]
    omega
theorem recsOf_after (ds : List (List UInt8)) (i : Nat) (rs : List RcP) (h : After rs i) : After (rs ++ recsOf ds i) (i + ds.length) := by
  rcases List.eq_nil_or_concat ds with rfl | ⟨a, d, rfl⟩
  · simpa [recsOf] using h
  · right
    rw [List.concat_eq_append, recsOf_append]
    refine ⟨⟨((i + a.length + 1 : Nat) : Int), d⟩, ?_, ?_, ?_⟩
    · rw [← List.append_assoc, recsOf, recsOf, List.getLast?_append]
      rfl
    · simp only [List.length_append, List.length_singleton]; omega
    · simp only [List.length_append, List.length_singleton]; omega
theorem body_le (n : Int) {d : List UInt8} (h : d.length ≤ 65524) : (body n d).length ≤ 65536 := by rw [body_len]; omega
theorem follows_after {rs : List RcP} {i : Nat} (h : After rs i) (d : List UInt8) : followsW rs ⟨((i + 1 : Nat) : Int), d⟩ = true := by
  unfold followsW
  rcases h with rfl | ⟨q, hq, h1, h2⟩
  · simp only [List.getLast?_nil, decide_eq_true_eq]; omega
  · rw [hq]
    simp only [Bool.and_eq_true, decide_eq_true_eq, beq_iff_eq]
    omega
theorem scan_frames : ∀ (ds : List (List UInt8)) (i : Nat) (pre t D : List UInt8) (rs : List RcP) (k : Nat), Small ds → Torn t → After rs i → D = pre ++ (frames ds i ++ t) → i + ds.length ≤ 9223372036854775807 → ds.length < k →
    scanW k rs D pre.length = some (rs ++ recsOf ds i, pre.length + (frames ds i).length)
  | [], i, pre, t, D, rs, k, hs, ht, ha, hD, hi, hk => by
    obtain ⟨k, rfl⟩ : ∃ j, k = j + 1 := ⟨k - 1, by simp at hk; omega⟩
    simp only [frames, List.nil_append] at hD
    simp only [frames, recsOf, List.append_nil, List.length_nil, Nat.add_zero]
    rcases ht with rfl | ht
    · rw [scanW_end (by rw [hD]; simp)]
    · by_cases hl : pre.length < D.length
      · rw [scanW_step hl, show D.drop pre.length = t by rw [hD]; exact List.drop_left' rfl, if_pos ht]
      · rw [scanW_end hl]
  | d :: ds, i, pre, t, D, rs, k, hs, ht, ha, hD, hi, hk => by
    obtain ⟨k, rfl⟩ : ∃ j, k = j + 1 := ⟨k - 1, by simp at hk; omega⟩
    have hd : d.length ≤ 65524 := hs d (by simp)
    have hb := body_le ((i + 1 : Nat) : Int) hd
    have hfl := frameR_len (body ((i + 1 : Nat) : Int) d)
    simp only [List.length_cons] at hi hk
    have hdr : D.drop pre.length = frameR (body ((i + 1 : Nat) : Int) d) ++ (frames ds (i + 1) ++ t) := by
      rw [hD, List.drop_left' rfl, frames, List.append_assoc]
    have hlt : pre.length < D.length := by rw [hD, List.length_append, frames]; simp only [List.length_append]; omega
    rw [scanW_step hlt, hdr, unf_frame _ _ hb]
    simp only
    rw [if_neg (by decide), if_neg (by simp), unRec_body _ _ (by omega) (by omega)]
    simp only
    rw [if_neg (by simp), follows_after ha, if_pos rfl]
    have hpl : pre.length + ((body ((i + 1 : Nat) : Int) d).length + 8) = (pre ++ frameR (body ((i + 1 : Nat) : Int) d)).length := by rw [List.length_append]; omega
    rw [hpl]
    have hih := scan_frames ds (i + 1) (pre ++ frameR (body ((i + 1 : Nat) : Int) d)) t D (rs ++ [⟨((i + 1 : Nat) : Int), d⟩]) k (fun x hx => hs x (by simp [hx])) ht (.inr ⟨⟨((i + 1 : Nat) : Int), d⟩, by rw [List.getLast?_append]; rfl, rfl, by omega⟩) (by rw [hD, frames]; simp [List.append_assoc]) (by omega) (by omega)
    rw [hih, recsOf, frames]
    simp only [List.append_assoc, List.cons_append, List.nil_append, List.length_append, Nat.add_assoc]

/-! ### bytes that end early -/
theorem torn_take (t : List UInt8) (n : Nat) (h : Torn t) : Torn (t.take n) := by
  rcases h with rfl | h
  · exact .inl (by simp)
  · by_cases hn : t.length ≤ n
    · rw [List.take_of_length_le hn]; exact .inr h
    · right
      have hlen : (t.take n).length = n := by rw [List.length_take]; omega
      unfold unfR at h ⊢
      by_cases h8 : n < 8
      · rw [if_pos (by omega)]
      · rw [if_neg (by omega)]
        have e4 : (t.take n).take 4 = t.take 4 := by rw [List.take_take, Nat.min_eq_left (by omega)]
        rw [if_neg (by omega)] at h
        rw [e4]
        by_cases h5 : num (t.take 4) > 65536
        · rw [if_pos h5] at h; simp at h
        · rw [if_neg h5] at h ⊢
          by_cases h6 : t.length < 8 + num (t.take 4)
          · rw [if_pos (by omega)]
          · rw [if_neg h6] at h
            split at h <;> simp at h
theorem frames_prefix : ∀ (ds : List (List UInt8)) (i n : Nat) (t : List UInt8), Small ds → Torn t →
    ∃ m t', m ≤ ds.length ∧ (frames ds i ++ t).take n = frames (ds.take m) i ++ t' ∧ Torn t' ∧ ∀ m', m' ≤ ds.length → (frames (ds.take m') i).length ≤ n → m' ≤ m
  | [], i, n, t, hs, ht => ⟨0, t.take n, Nat.le_refl _, by simp [frames], torn_take t n ht, fun m' h _ => by simpa using h⟩
  | d :: ds, i, n, t, hs, ht => by
    have hd : d.length ≤ 65524 := hs d (by simp)
    have hb := body_le ((i + 1 : Nat) : Int) hd
    obtain ⟨F, hF⟩ : ∃ F, frameR (body ((i + 1 : Nat) : Int) d) = F := ⟨_, rfl⟩
    by_cases hn : n < F.length
    · refine ⟨0, F.take n, Nat.zero_le _, ?_, .inr ?_, fun m' h1 h2 => ?_⟩
      · rw [frames, hF, List.append_assoc, List.take_append_of_le_length (by omega)]
        simp [frames]
      · rw [← hF]; rw [← hF] at hn; exact unf_cutF _ hb n hn
      · rcases m' with _ | m'
        · exact Nat.le_refl _
        · rw [List.take_succ_cons, frames, hF, List.length_append] at h2
          omega
    · obtain ⟨m, t', h1, h2, h3, h4⟩ := frames_prefix ds (i + 1) (n - F.length) t (fun x hx => hs x (by simp [hx])) ht
      refine ⟨m + 1, t', by simp; omega, ?_, h3, fun m' h5 h6 => ?_⟩
      · rw [frames, hF, List.append_assoc, List.take_append, List.take_of_length_le (by omega), h2, List.take_succ_cons, frames, hF, List.append_assoc]
      · rcases m' with _ | m'
        · omega
        · rw [List.take_succ_cons, frames, hF, List.length_append] at h6
          have := h4 m' (by simpa using h5) (by omega)
          omega
theorem frames_mono {ds : List (List UInt8)} {i : Nat} : ∀ {m m' : Nat}, m ≤ m' → (frames (ds.take m) i).length ≤ (frames (ds.take m') i).length := fun {m m'} h => by
  have e : ds.take m' = ds.take m ++ (ds.take m').drop m := by
    have := List.take_append_drop m (ds.take m')
    rw [List.take_take, Nat.min_eq_left h] at this
    exact this.symm
  rw [e, frames_append, List.length_append]
  omega

/-! ### a stretch of all records -/
def sl (all : List (List UInt8)) (s e : Nat) : List (List UInt8) := (all.take e).drop s
def seg (all : List (List UInt8)) (s e : Nat) : List UInt8 := frames (sl all s e) s
theorem sl_len {all : List (List UInt8)} {s e : Nat} (h : e ≤ all.length) : (sl all s e).length = e - s := by unfold sl; rw [List.length_drop, List.length_take]; omega
theorem sl_small {all : List (List UInt8)} (h : Small all) (s e : Nat) : Small (sl all s e) := fun d hd => h d (List.mem_of_mem_take (List.mem_of_mem_drop hd))
theorem sl_more {all x : List (List UInt8)} {s e : Nat} (h : e ≤ all.length) : sl (all ++ x) s e = sl all s e := by unfold sl; rw [List.take_append_of_le_length h]
theorem sl_join {all : List (List UInt8)} {s m e : Nat} (h1 : s ≤ m) (h2 : m ≤ e) (he : e ≤ all.length) : sl all s m ++ sl all m e = sl all s e := by
  unfold sl
  have e1 : all.take e = all.take m ++ (all.take e).drop m := by
    have := List.take_append_drop m (all.take e)
    rw [List.take_take, Nat.min_eq_left h2] at this
    exact this.symm
  conv => rhs; rw [e1]
  rw [List.drop_append_of_le_length (by rw [List.length_take]; omega)]
theorem sl_take {all : List (List UInt8)} {s e n : Nat} (he : s + n ≤ e) : (sl all s e).take n = sl all s (s + n) := by
  unfold sl
  rw [List.take_drop, List.take_take, Nat.min_eq_left he]
theorem seg_more {all x : List (List UInt8)} {s e : Nat} (h : e ≤ all.length) : seg (all ++ x) s e = seg all s e := by unfold seg; rw [sl_more h]
theorem seg_nil (all : List (List UInt8)) (s : Nat) : seg all s s = [] := by
  unfold seg sl
  rw [List.drop_of_length_le (by rw [List.length_take]; omega)]; rfl
theorem seg_join {all : List (List UInt8)} {s m e : Nat} (h1 : s ≤ m) (h2 : m ≤ e) (he : e ≤ all.length) : seg all s e = seg all s m ++ seg all m e := by
  unfold seg
  rw [← sl_join h1 h2 he, frames_append, sl_len (by omega)]
  congr 2; omega
theorem seg_one {all : List (List UInt8)} {d : List UInt8} {e : Nat} (he : e = all.length) : seg (all ++ [d]) e (e + 1) = frameR (body ((e + 1 : Nat) : Int) d) := by
  subst he
  unfold seg sl
  rw [List.take_of_length_le (by simp), List.drop_left' rfl]
  simp [frames]
end Go.Proofs.YtccjkolcmdhliaaGreatDoor
/- The segments that a disk has, and what loading them comes to (plain). -/
namespace Go.Proofs.YtccjkolcmdhliaaGreatDoor
open Go.RowKit Go.Maps Go.Sort
set_option linter.unusedVariables false

/-! ### names by number -/
def nm (k : Nat) : List UInt8 := nameW (k : Int)
theorem nm_facts : ((List.range 200).all fun k => numW (nm (k + 1)) == ((k + 1 : Nat) : Int)) = true := by kernel_rfl
theorem nm_oks : ((List.range 200).all fun k => nameOk (nm (k + 1))) = true := by kernel_rfl
theorem nm_rises : ((List.range 199).all fun k => decide (nm (k + 1) < nm (k + 2))) = true := by kernel_rfl
theorem nm_num {k : Nat} (h1 : 1 ≤ k) (h2 : k ≤ 200) : numW (nm k) = (k : Int) := by
  have := List.all_eq_true.1 nm_facts (k - 1) (List.mem_range.2 (by omega))
  rw [show k - 1 + 1 = k by omega] at this
  simpa using this
theorem nm_ok {k : Nat} (h1 : 1 ≤ k) (h2 : k ≤ 200) : nameOk (nm k) = true := by
  have := List.all_eq_true.1 nm_oks (k - 1) (List.mem_range.2 (by omega))
  rwa [show k - 1 + 1 = k by omega] at this
theorem nm_inj {j k : Nat} (h1 : 1 ≤ j) (h2 : j ≤ 200) (h3 : 1 ≤ k) (h4 : k ≤ 200) (h : nm j = nm k) : j = k := by
  have e1 := nm_num h1 h2
  have e2 := nm_num h3 h4
  rw [h, e2] at e1
  omega
theorem nm_step {k : Nat} (h1 : 1 ≤ k) (h2 : k < 200) : nm k < nm (k + 1) := by
  have := List.all_eq_true.1 nm_rises (k - 1) (List.mem_range.2 (by omega))
  rw [show k - 1 + 1 = k by omega, show k - 1 + 2 = k + 1 by omega] at this
  simpa using this
theorem nm_le {j : Nat} (h1 : 1 ≤ j) : ∀ n : Nat, j + n ≤ 200 → nm j ≤ nm (j + n)
  | 0, _ => List.le_refl _
  | n + 1, h => List.le_trans (nm_le h1 n (by omega)) (List.le_of_lt (nm_step (by omega) (by omega)))

/-! ### the segments a to b without it -/
structure View (D : DU) (a b : Nat) (fn : Nat → Int) : Prop where
  lo : 1 ≤ a
  hi : b ≤ 200
  get : ∀ s n, look D s = some n ↔ ∃ k, a ≤ k ∧ k < b ∧ s = nm k ∧ n = fn k
theorem View.at {D : DU} {a b : Nat} {fn : Nat → Int} (h : View D a b fn) {k : Nat} (h1 : a ≤ k) (h2 : k < b) : look D (nm k) = some (fn k) := (h.get _ _).2 ⟨k, h1, h2, rfl, rfl⟩
theorem View.not {D : DU} {a b : Nat} {fn : Nat → Int} (h : View D a b fn) {k : Nat} (h0 : 1 ≤ k) (h3 : k ≤ 200) (h1 : ¬ (a ≤ k ∧ k < b)) : look D (nm k) = none := by
  cases hl : look D (nm k) with
  | none => rfl
  | some n =>
    obtain ⟨j, j1, j2, j3, _⟩ := (h.get _ _).1 hl
    have := nm_inj h0 h3 (by have := h.lo; omega) (by have := h.hi; omega) j3
    omega
theorem View.keys {f : Int → Option FR} {D : DU} {a b : Nat} {fn : Nat → Int} (h : View D a b fn) (hg : Good f D) : sortedKeys D = (List.range' a (b - a)).map nm := by
  obtain ⟨es, rfl, hp, hk⟩ := hg.canon
  have hlo := h.lo
  have hhi := h.hi
  have hnd : ((List.range' a (b - a)).map nm).Nodup := by
    refine List.pairwise_map.2 ((List.nodup_range' (s := a) (n := b - a) 1).imp_of_mem fun {x y} hx hy hne e => hne ?_)
    rw [List.mem_range'_1] at hx hy
    exact nm_inj (by omega) (by omega) (by omega) (by omega) e
  have hperm := perm_strKeys (apart_of_rising hp) (fun p hp => by
    obtain ⟨v, hv⟩ := hk p hp
    obtain ⟨x, _, hx, _⟩ := Maps.keyOf_str Tryz.underlying9 hv
    exact ⟨x, hx⟩) hnd (fun x => by
    rw [has_look hg.ints x, Option.isSome_iff_exists, List.mem_map]
    constructor
    · rintro ⟨k, hk, rfl⟩
      rw [List.mem_range'_1] at hk
      exact ⟨_, h.at (by omega) (by omega)⟩
    · rintro ⟨n, hn⟩
      obtain ⟨k, k1, k2, k3, _⟩ := (h.get _ _).1 hn
      exact ⟨k, List.mem_range'_1.2 (by omega), k3.symm⟩)
  have tr : ∀ a b c : List UInt8, decide (a ≤ b) = true → decide (b ≤ c) = true → decide (a ≤ c) = true := fun a b c h k => by
    simp only [decide_eq_true_eq] at *; exact List.le_trans h k
  have tot : ∀ a b : List UInt8, (decide (a ≤ b) || decide (b ≤ a)) = true := fun a b => by simp only [Bool.or_eq_true, decide_eq_true_eq]; exact List.le_total a b
  unfold sortedKeys
  refine List.Perm.eq_of_pairwise (le := fun a b => decide (a ≤ b) = true) (fun a b _ _ h1 h2 => ?_) (List.pairwise_mergeSort tr tot _) ?_ ((List.mergeSort_perm _ _).trans hperm.symm)
  · simp only [decide_eq_true_eq] at h1 h2; exact List.le_antisymm h1 h2
  · refine List.pairwise_map.2 ((List.pairwise_lt_range' (s := a) (n := b - a) 1).imp_of_mem fun {x y} hx hy hlt => ?_)
    rw [List.mem_range'_1] at hx hy
    have := nm_le (j := x) (by omega) (y - x) (by omega)
    rw [show x + (y - x) = y by omega] at this
    simpa using this
theorem segsW_range (a n : Nat) (h1 : 1 ≤ a) (h2 : a + n ≤ 201) : segsW ((List.range' a n).map nm) = (List.range' a n).map (fun k : Nat => (k : Int)) := by
  unfold segsW
  rw [List.map_map]
  have e : (List.range' a n).map (numW ∘ nm) = (List.range' a n).map (fun k : Nat => (k : Int)) := List.map_congr_left fun k hk => by
    rw [List.mem_range'_1] at hk
    exact nm_num (by omega) (by omega)
  rw [e, List.filter_eq_self]
  intro x hx
  obtain ⟨k, hk, rfl⟩ := List.mem_map.1 hx
  rw [List.mem_range'_1] at hk
  simp only [decide_eq_true_eq]
  omega

/-! ### what they hold -/
/-- Of the segments from a on, up to b without it: segment k holds the records behind st k up to st (k + 1), and behind the last one's stands t. -/
structure Held (file : Int → Option FR) (all : List (List UInt8)) (a b : Nat) (fn : Nat → Int) (st : Nat → Nat) (t : List UInt8) : Prop where
  up : ∀ k, a ≤ k → k < b → st k ≤ st (k + 1)
  le : ∀ k, a ≤ k → k ≤ b → st k ≤ all.length
  whole : ∀ k, a ≤ k → k + 1 < b → ∃ r, file (fn k) = some r ∧ r.bytes = seg all (st k) (st (k + 1)) ∧ st k < st (k + 1)
  last : ∀ k, a ≤ k → k + 1 = b → ∃ r, file (fn k) = some r ∧ r.bytes = seg all (st k) (st (k + 1)) ++ t
  small : Small all
  fin : all.length ≤ 1000000
  torn : Torn t
theorem Held.tail {file : Int → Option FR} {all : List (List UInt8)} {a b : Nat} {fn : Nat → Int} {st : Nat → Nat} {t : List UInt8} (h : Held file all a b fn st t) : Held file all (a + 1) b fn st t :=
  ⟨fun k h1 h2 => h.up k (by omega) h2, fun k h1 h2 => h.le k (by omega) h2, fun k h1 h2 => h.whole k (by omega) h2, fun k h1 h2 => h.last k (by omega) h2, h.small, h.fin, h.torn⟩
theorem seg_scan {all : List (List UInt8)} {s e : Nat} {t : List UInt8} {rs : List RcP} (hsm : Small all) (hse : s ≤ e) (he : e ≤ all.length) (hf : all.length ≤ 1000000) (ht : Torn t) (ha : After rs s) :
    scanW ((seg all s e ++ t).length + 1) rs (seg all s e ++ t) 0 = some (rs ++ recsOf (sl all s e) s, (seg all s e).length) := by
  have hl := sl_len (s := s) he
  have hfr : ∀ (ds : List (List UInt8)) (i : Nat), ds.length ≤ (frames ds i).length := fun ds => by
    induction ds with
    | nil => intro i; simp
    | cons d ds ih => intro i; rw [frames, List.length_cons, List.length_append, frameR_len]; have := ih (i + 1); omega
  have h1 := hfr (sl all s e) s
  have := scan_frames (sl all s e) s [] t (seg all s e ++ t) rs ((seg all s e ++ t).length + 1) (sl_small hsm s e) ht ha rfl (by omega) (by unfold seg; rw [List.length_append]; omega)
  simpa [seg] using this
/-- What is loaded of them. -/
def segL (st : Nat → Nat) (k : Nat) : SegP := ⟨(k : Int), if st k < st (k + 1) then (st (k + 1) : Int) else 0⟩
theorem recs_last {all : List (List UInt8)} {s e : Nat} {rs : List RcP} (hse : s < e) (he : e ≤ all.length) : lastSeq (rs ++ recsOf (sl all s e) s) = (e : Int) := by
  have hl := sl_len (s := s) he
  rcases List.eq_nil_or_concat (sl all s e) with h | ⟨x, d, h⟩
  · rw [h] at hl; simp at hl; omega
  · rw [List.concat_eq_append] at h
    rw [h] at hl ⊢
    simp at hl
    unfold lastSeq
    rw [recsOf_append, ← List.append_assoc, recsOf, recsOf, List.getLast?_append]
    simp only [List.getLast?_singleton, Option.some_or]
    omega
theorem load_view {S : AS} {all : List (List UInt8)} {b : Nat} {fn : Nat → Int} {st : Nat → Nat} {t : List UInt8} (hon : S.on = true) (hb : b ≤ 200) : ∀ (n a : Nat) (rs : List RcP) (L : LS) (first : Bool), a + n = b → 1 ≤ a → 0 < n → (∀ k, a ≤ k → k < b → look S.names (nm k) = some (fn k)) →
    Held S.file all a b fn st t → After rs (st a) → (first = false → L.number + 1 = a) →
    loadW S first (rs, L, false) ((List.range' a n).map (fun k : Nat => (k : Int))) = .ok (rs ++ recsOf (sl all (st a) (st b)) (st a), { L with files := L.files ++ (List.range' a n).map (segL st), size := ((seg all (st (b - 1)) (st b)).length : Nat) }, decide (t ≠ []))
  | 0, a, rs, L, first, hn, ha, h0, hv, hh, hr, hf => absurd h0 (Nat.lt_irrefl _)
  | n + 1, a, rs, L, first, hn, ha, h0, hv, hh, hr, hf => by
    have hle1 := hh.up a (Nat.le_refl _) (by omega)
    have hle2 := hh.le (a + 1) (by omega) (by omega)
    have hname : nameW ((a : Nat) : Int) = nm a := rfl
    have hck : checkOf S.on [nm a] = 0 := by
      unfold checkOf; rw [hon]; simp [nm_ok ha (by omega)]
    have hread : ∀ r, S.file (fn a) = some r → S.read (nm a) = (r.bytes, 0) := fun r hr => by
      unfold AS.read
      rw [if_pos hck, hv a (Nat.le_refl _) (by omega)]
      simp only [hr]
    have step : ∀ t0 r, S.file (fn a) = some r → r.bytes = seg all (st a) (st (a + 1)) ++ t0 → Torn t0 → loadStep S first (rs, L, false) ((a : Nat) : Int) = .ok (rs ++ recsOf (sl all (st a) (st (a + 1))) (st a), { L with size := ((seg all (st a) (st (a + 1))).length : Nat), files := L.files ++ [segL st a] }, decide (t0 ≠ [])) := fun t0 r hr0 hb0 ht0 => by
      unfold loadStep
      rw [if_neg (fun hc => hc.2 (hf hc.1).symm), if_neg (by simp), hname, hread r hr0]
      simp only
      rw [if_neg (by simp), hb0, seg_scan hh.small hle1 hle2 hh.fin ht0 hr]
      simp only
      have hlen : (rs ++ recsOf (sl all (st a) (st (a + 1))) (st a)).length = rs.length + (st (a + 1) - st a) := by rw [List.length_append, recsOf_len, sl_len hle2]
      have hseg : (⟨((a : Nat) : Int), if rs.length < (rs ++ recsOf (sl all (st a) (st (a + 1))) (st a)).length then lastSeq (rs ++ recsOf (sl all (st a) (st (a + 1))) (st a)) else 0⟩ : SegP) = segL st a := by
        unfold segL
        by_cases hlt : st a < st (a + 1)
        · rw [if_pos hlt, if_pos (by omega), recs_last hlt hle2]
        · rw [if_neg hlt, if_neg (by omega)]
      have htd : decide ((seg all (st a) (st (a + 1))).length < (seg all (st a) (st (a + 1)) ++ t0).length) = decide (t0 ≠ []) := by
        rw [List.length_append]
        rcases t0 with _ | ⟨x, y⟩
        · simp
        · simp
      rw [hseg, htd]
    rcases n with _ | n
    · obtain ⟨r, r1, r2⟩ := hh.last a (Nat.le_refl _) (by omega)
      have hst := step t r r1 r2 hh.torn
      obtain rfl : b = a + 1 := by omega
      rw [show List.range' a (0 + 1) = [a] from rfl, List.map_singleton, List.map_singleton, loadW_cons, hst]
      rfl
    · obtain ⟨r, r1, r2, r3⟩ := hh.whole a (Nat.le_refl _) (by omega)
      have hst := step [] r r1 (by rw [r2, List.append_nil]) (.inl rfl)
      rw [List.range'_succ, List.map_cons, loadW_cons, hst]
      simp only
      rw [show decide (([] : List UInt8) ≠ []) = false by simp]
      have hsub : st a + (sl all (st a) (st (a + 1))).length = st (a + 1) := by rw [sl_len hle2]; omega
      have haf := recsOf_after (sl all (st a) (st (a + 1))) (st a) rs hr
      rw [hsub] at haf
      have hmono : st (a + 1) ≤ st b := by
        have : ∀ m j, a + 1 ≤ j → j + m = b → st j ≤ st b := fun m => by
          induction m with
          | zero => intro j _ h2; rw [← h2]; exact Nat.le_refl _
          | succ m ih => intro j h1 h2; exact Nat.le_trans (hh.up j (by omega) (by omega)) (ih (j + 1) (by omega) (by omega))
        exact this (n + 1) (a + 1) (Nat.le_refl _) (by omega)
      rw [load_view hon hb (n + 1) (a + 1) _ _ false (by omega) (by omega) (by omega) (fun k h1 h2 => hv k (by omega) h2) hh.tail haf (fun _ => by unfold LS.number; simp only; rw [numOf_snoc]; unfold segL; simp)]
      have hbl := hh.le b (by omega) (Nat.le_refl _)
      have hj : recsOf (sl all (st a) (st b)) (st a) = recsOf (sl all (st a) (st (a + 1))) (st a) ++ recsOf (sl all (st (a + 1)) (st b)) (st (a + 1)) := by
        rw [← sl_join hle1 hmono hbl, recsOf_append, hsub]
      rw [hj, List.append_assoc, List.map_cons, List.append_assoc]
      rfl
end Go.Proofs.YtccjkolcmdhliaaGreatDoor
/- What a disk with a log on it keeps, whatever is done to it (plain). -/
namespace Go.Proofs.YtccjkolcmdhliaaGreatDoor
open Go.RowKit Go.Maps Go.Sort
set_option linter.unusedVariables false

/-- The disk: segments A to B without it, of which each beginning of the loose changes leaves a stretch; all: what was appended; F: so many are firm; o: so many were let go. -/
structure J (S : AS) (all : List (List UInt8)) (F o A B : Nat) (fn : Nat → Int) (st : Nat → Nat) (t : List UInt8) : Prop where
  lo : 1 ≤ A
  ab : A ≤ B
  hi : B ≤ 190
  held : Held S.file all A B fn st t
  firmW : ∀ k r, A ≤ k → k + 1 < B → S.file (fn k) = some r → r.firm = r.bytes.length
  firmL : ∀ k r, A ≤ k → k + 1 = B → S.file (fn k) = some r → (seg all (st k) (max F (st k))).length ≤ r.firm
  inj : ∀ j k, A ≤ j → j < B → A ≤ k → k < B → fn j = fn k → j = k
  views : ∀ j, j ≤ S.loose.length → ∃ a b, A ≤ a ∧ a ≤ b ∧ b ≤ B ∧ View (past S j) a b fn ∧ st a ≤ o ∧ F ≤ st b ∧ (a = b → a = 1)
  of : o ≤ F
theorem Held.mono {file : Int → Option FR} {all : List (List UInt8)} {a b : Nat} {fn : Nat → Int} {st : Nat → Nat} {t : List UInt8} (h : Held file all a b fn st t) : ∀ n j, a ≤ j → j + n ≤ b → st j ≤ st (j + n) := fun n => by
  induction n with
  | zero => intro j _ _; exact Nat.le_refl _
  | succ n ih => intro j h1 h2; exact Nat.le_trans (ih j h1 (by omega)) (h.up (j + n) (by omega) (by omega))
theorem Held.rise {file : Int → Option FR} {all : List (List UInt8)} {a b : Nat} {fn : Nat → Int} {st : Nat → Nat} {t : List UInt8} (h : Held file all a b fn st t) {j k : Nat} (h1 : a ≤ j) (h2 : j ≤ k) (h3 : k ≤ b) : st j ≤ st k := by
  have := h.mono (k - j) j h1 (by omega)
  rwa [show j + (k - j) = k by omega] at this
theorem Held.there {file : Int → Option FR} {all : List (List UInt8)} {a b : Nat} {fn : Nat → Int} {st : Nat → Nat} {t : List UInt8} (h : Held file all a b fn st t) {k : Nat} (h1 : a ≤ k) (h2 : k < b) : ∃ r, file (fn k) = some r := by
  by_cases e : k + 1 < b
  · obtain ⟨r, hr, _⟩ := h.whole k h1 e; exact ⟨r, hr⟩
  · obtain ⟨r, hr, _⟩ := h.last k h1 (by omega); exact ⟨r, hr⟩
/-- The files' bytes stay, and nothing firm is lost. -/
theorem J.file {S S' : AS} {all : List (List UInt8)} {F o A B : Nat} {fn : Nat → Int} {st : Nat → Nat} {t : List UInt8} (h : J S all F o A B fn st t) (e1 : S'.firm = S.firm) (e2 : S'.loose = S.loose)
    (hf : ∀ k r, A ≤ k → k < B → S.file (fn k) = some r → ∃ r', S'.file (fn k) = some r' ∧ r'.bytes = r.bytes ∧ r.firm ≤ r'.firm ∧ r'.firm ≤ r'.bytes.length) : J S' all F o A B fn st t := by
  refine ⟨h.lo, h.ab, h.hi, ⟨h.held.up, h.held.le, fun k h1 h2 => ?_, fun k h1 h2 => ?_, h.held.small, h.held.fin, h.held.torn⟩, fun k r h1 h2 hr => ?_, fun k r h1 h2 hr => ?_, h.inj, fun j hj => ?_, h.of⟩
  · obtain ⟨r, r1, r2, r3⟩ := h.held.whole k h1 h2
    obtain ⟨r', q1, q2, q3, q4⟩ := hf k r h1 (by omega) r1
    exact ⟨r', q1, by rw [q2, r2], r3⟩
  · obtain ⟨r, r1, r2⟩ := h.held.last k h1 h2
    obtain ⟨r', q1, q2, q3, q4⟩ := hf k r h1 (by omega) r1
    exact ⟨r', q1, by rw [q2, r2]⟩
  · obtain ⟨r0, hr0⟩ := h.held.there h1 (show k < B by omega)
    obtain ⟨r', q1, q2, q3, q4⟩ := hf k r0 h1 (by omega) hr0
    rw [q1] at hr
    cases hr
    have := h.firmW k r0 h1 h2 hr0
    rw [q2] at q4 ⊢
    omega
  · obtain ⟨r0, hr0⟩ := h.held.there h1 (show k < B by omega)
    obtain ⟨r', q1, q2, q3, q4⟩ := hf k r0 h1 (by omega) hr0
    rw [q1] at hr
    cases hr
    have := h.firmL k r0 h1 h2 hr0
    omega
  · rw [past_same e1 e2]
    exact h.views j (by rw [← e2]; exact hj)
theorem J.step {S : AS} {all : List (List UInt8)} {F o A B : Nat} {fn : Nat → Int} {st : Nat → Nat} {t : List UInt8} {N : Nat} (h : J S all F o A B fn st t) (hi : Inv N S) : J S.step all F o A B fn st t := by
  obtain ⟨e1, e2, e3, e4, e5, e6⟩ := step_same S
  exact h.file e2 e3 fun k r _ _ hr => ⟨r, by rw [e4]; exact hr, rfl, Nat.le_refl _, (hi.file _ _ hr).2.2.1⟩
theorem J.synced {S : AS} {all : List (List UInt8)} {F o A B : Nat} {fn : Nat → Int} {st : Nat → Nat} {t : List UInt8} {N : Nat} (h : J S all F o A B fn st t) (hi : Inv N S) {n : Int} {r : FR} (hr : S.file n = some r) : J (S.synced n r) all F o A B fn st t := by
  refine h.file (S' := S.synced n r) rfl rfl fun k q _ _ hq => ?_
  have hl := (hi.file _ _ hq).2.2.1
  by_cases e : fn k = n
  · rw [e, hr] at hq
    cases hq
    exact ⟨{ bytes := r.bytes, firm := r.bytes.length }, by show upd S.file n _ (fn k) = _; rw [e, upd_same], rfl, hl, Nat.le_refl _⟩
  · exact ⟨q, by show upd S.file n _ (fn k) = _; rw [upd_other _ _ e]; exact hq, rfl, Nat.le_refl _, hl⟩
theorem Small.snoc {all : List (List UInt8)} {d : List UInt8} (h : Small all) (hd : d.length ≤ 65524) : Small (all ++ [d]) := fun x hx => by
  rcases List.mem_append.1 hx with hx | hx
  · exact h x hx
  · rw [List.mem_singleton.1 hx]; exact hd
/-- More may have been appended that isn't there. -/
theorem J.more {S : AS} {all : List (List UInt8)} {F o A B : Nat} {fn : Nat → Int} {st : Nat → Nat} {t : List UInt8} (h : J S all F o A B fn st t) {d : List UInt8} (hd : d.length ≤ 65524) (hfin : all.length < 1000000) : J S (all ++ [d]) F o A B fn st t := by
  have hle : ∀ k, A ≤ k → k ≤ B → st k ≤ (all ++ [d]).length := fun k h1 h2 => by rw [List.length_append]; have := h.held.le k h1 h2; omega
  refine ⟨h.lo, h.ab, h.hi, ⟨h.held.up, hle, fun k h1 h2 => ?_, fun k h1 h2 => ?_, h.held.small.snoc hd, by simp; omega, h.held.torn⟩, h.firmW, fun k r h1 h2 hr => ?_, h.inj, h.views, h.of⟩
  · obtain ⟨r, r1, r2, r3⟩ := h.held.whole k h1 h2
    exact ⟨r, r1, by rw [seg_more (h.held.le _ (by omega) (by omega))]; exact r2, r3⟩
  · obtain ⟨r, r1, r2⟩ := h.held.last k h1 h2
    exact ⟨r, r1, by rw [seg_more (h.held.le _ (by omega) (by omega))]; exact r2⟩
  · have h3 := h.firmL k r h1 h2 hr
    have h4 := h.held.le k h1 (by omega)
    obtain ⟨a, b, v1, v2, v3, _, _, v6, _⟩ := h.views 0 (Nat.zero_le _)
    have h5 := h.held.le b (by omega) v3
    rw [seg_more (by omega)]
    exact h3
theorem J.F_le {S : AS} {all : List (List UInt8)} {F o A B : Nat} {fn : Nat → Int} {st : Nat → Nat} {t : List UInt8} (h : J S all F o A B fn st t) : F ≤ st B := by
  obtain ⟨a, b, v1, v2, v3, _, _, v6, _⟩ := h.views 0 (Nat.zero_le _)
  have := h.held.rise (j := b) (k := B) (by omega) v3 (Nat.le_refl _)
  omega
/-- All names are settled. -/
theorem J.settled {S : AS} {all : List (List UInt8)} {F o A B c : Nat} {fn : Nat → Int} {st : Nat → Nat} {t : List UInt8} {N : Nat} (h : J S all F o A B fn st t) (hi : Inv N S) (hc : A ≤ c) (hcB : c ≤ B) (hv : View S.names c B fn) (hso : st c ≤ o) (hem : c = B → c = 1) : J S.settled all F o c B fn st t := by
  have hkeep : ∀ k r, c ≤ k → k < B → S.file (fn k) = some r → S.settled.file (fn k) = some r := fun k r h1 h2 hr => by
    show (if keeps S.names (fn k) = true then S.file (fn k) else none) = _
    rw [if_pos (keeps_of hi.names (hv.at h1 h2))]
    exact hr
  have hback : ∀ k r, c ≤ k → k < B → S.settled.file (fn k) = some r → S.file (fn k) = some r := fun k r h1 h2 hr => by
    obtain ⟨r0, hr0⟩ := h.held.there (show A ≤ k by omega) h2
    rw [hkeep k r0 h1 h2 hr0] at hr
    rw [hr0]; exact hr
  refine ⟨by have := h.lo; omega, hcB, h.hi, ⟨fun k h1 h2 => h.held.up k (by omega) h2, fun k h1 h2 => h.held.le k (by omega) h2, fun k h1 h2 => ?_, fun k h1 h2 => ?_, h.held.small, h.held.fin, h.held.torn⟩,
    fun k r h1 h2 hr => h.firmW k r (by omega) h2 (hback k r h1 (by omega) hr), fun k r h1 h2 hr => h.firmL k r (by omega) h2 (hback k r h1 (by omega) hr), fun j k h1 h2 h3 h4 => h.inj j k (by omega) h2 (by omega) h4, fun j hj => ?_, h.of⟩
  · obtain ⟨r, r1, r2⟩ := h.held.whole k (by omega) h2
    exact ⟨r, hkeep k r h1 (by omega) r1, r2⟩
  · obtain ⟨r, r1, r2⟩ := h.held.last k (by omega) h2
    exact ⟨r, hkeep k r h1 (by omega) r1, r2⟩
  · have e : past S.settled j = S.names := by unfold past AS.settled; simp
    rw [e]
    exact ⟨c, B, Nat.le_refl _, hcB, Nat.le_refl _, hv, hso, h.F_le, hem⟩

/-! ### a log that is whole, on its disk -/
structure H (S : AS) (L : LS) (all : List (List UInt8)) (F o A B c : Nat) (fn : Nat → Int) (st : Nat → Nat) : Prop where
  j : J S all F o A B fn st []
  on : S.on = true
  fault : L.fault = 0
  last : L.last = (all.length : Nat)
  len : st B = all.length
  firm : L.firm = (F : Nat)
  ac : A ≤ c
  cb : c ≤ B
  view : View S.names c B fn
  so : st c ≤ o
  em : c = B → c = 1
  files : L.files = (List.range' c (B - c)).map (segL st)
  size : c < B → L.size = ((seg all (st (B - 1)) (st B)).length : Nat)
  synced : L.bytes = false → c < B → ∀ r, S.file (fn (B - 1)) = some r → r.firm = r.bytes.length
  some_ : L.bytes = true → c < B
  names : L.names = false → S.loose = []
theorem H.number {S : AS} {L : LS} {all : List (List UInt8)} {F o A B c : Nat} {fn : Nat → Int} {st : Nat → Nat} (h : H S L all F o A B c fn st) : L.number = ((B - 1 : Nat) : Int) := by
  unfold LS.number
  rw [h.files]
  have hcb := h.cb
  have hlo := h.j.lo
  have hac := h.ac
  by_cases hlt : c < B
  · obtain ⟨m, hm⟩ : ∃ m, B - c = m + 1 := ⟨B - c - 1, by omega⟩
    rw [hm, List.range'_concat, List.map_append, List.map_singleton, numOf_snoc]
    unfold segL
    simp only
    omega
  · have e := h.em (by omega)
    rw [show B - c = 0 by omega]
    simp only [List.range'_zero, List.map_nil, numOf_nil]
    omega
theorem H.check {S : AS} {L : LS} {all : List (List UInt8)} {F o A B c : Nat} {fn : Nat → Int} {st : Nat → Nat} (h : H S L all F o A B c fn st) {k : Nat} (h1 : 1 ≤ k) (h2 : k ≤ 200) : checkOf S.on [nm k] = 0 := by
  unfold checkOf; rw [h.on]; simp [nm_ok h1 h2]
theorem step_on {S : AS} (h : S.stepE = 0) : S.step.on = S.on := by
  unfold AS.stepE at h
  unfold AS.step
  split
  · rename_i ha
    rw [if_pos ha] at h
    split
    · rfl
    · rename_i hl
      rw [if_neg hl] at h
      simp at h
  · rfl
/-- What a sync of the last segment comes to. -/
theorem H.sync {S : AS} {L : LS} {all : List (List UInt8)} {F o A B c : Nat} {fn : Nat → Int} {st : Nat → Nat} {N : Nat} (h : H S L all F o A B c fn st) (hi : Inv N S) (hc : c < B) :
    ((S.sync (nm (B - 1))).2 = 0 ∧ H (S.sync (nm (B - 1))).1 { L with bytes := false } all F o A B c fn st ∧ (S.sync (nm (B - 1))).1.loose = S.loose) ∨ ((S.sync (nm (B - 1))).2 = 13 ∧ J (S.sync (nm (B - 1))).1 all F o A B fn st []) := by
  have hlo := h.j.lo
  have hac := h.ac
  have hhi := h.j.hi
  have hl := h.view.at (k := B - 1) (by omega) (by omega)
  obtain ⟨r, hr⟩ := h.j.held.there (k := B - 1) (by omega) (by omega)
  obtain ⟨e1, e2, e3, e4, e5, e6⟩ := step_same S
  have hs : S.sync (nm (B - 1)) = if S.stepE = 0 then (S.step.synced (fn (B - 1)) r, 0) else (S.step, S.stepE) := by
    unfold AS.sync
    rw [if_pos (h.check (by omega) (by omega)), hl]
    simp only [hr]
  rw [hs]
  rcases stepE_01 S with he | he
  · rw [if_pos he]
    left
    have hj := (h.j.step hi).synced (hi.step) (n := fn (B - 1)) (r := r) (by rw [e4]; exact hr)
    refine ⟨rfl, ⟨hj, by show S.step.on = true; rw [step_on he]; exact h.on, h.fault, h.last, h.len, h.firm, h.ac, h.cb, by show View S.step.names c B fn; rw [e1]; exact h.view, h.so, h.em, h.files, h.size, fun _ _ q hq => ?_, fun h0 => by simp at h0, fun hn => by show S.step.loose = []; rw [e3]; exact h.names hn⟩, e3⟩
    have hq' : upd S.step.file (fn (B - 1)) (some { bytes := r.bytes, firm := r.bytes.length }) (fn (B - 1)) = some q := hq
    rw [upd_same] at hq'
    cases hq'
    rfl
  · rw [if_neg (by rw [he]; decide), he]
    exact .inr ⟨rfl, h.j.step hi⟩
theorem H.doSyncB {S : AS} {L : LS} {all : List (List UInt8)} {F o A B c : Nat} {fn : Nat → Int} {st : Nat → Nat} {N : Nat} (h : H S L all F o A B c fn st) (hi : Inv N S) :
    ((syncB S L).2.2 = 0 ∧ H (syncB S L).1 (syncB S L).2.1 all F o A B c fn st ∧ (syncB S L).2.1.bytes = false ∧ (syncB S L).2.1.names = L.names ∧ (syncB S L).1.loose = S.loose) ∨ ((syncB S L).2.2 = 13 ∧ J (syncB S L).1 all F o A B fn st [] ∧ (syncB S L).2.1.fault = 13) := by
  have hnum : nameW L.number = nm (B - 1) := by rw [h.number]; rfl
  cases hb : L.bytes with
  | false =>
    have e : syncB S L = (S, L, 0) := by unfold syncB; rw [hb]; rfl
    rw [e]
    exact .inl ⟨rfl, h, hb, rfl, rfl⟩
  | true =>
    have hs := h.sync hi (h.some_ hb)
    unfold syncB
    rw [hb, if_pos rfl, hnum]
    rcases hs with ⟨s1, s2, s3⟩ | ⟨s1, s2⟩
    · rw [if_pos s1]
      exact .inl ⟨rfl, s2, rfl, rfl, s3⟩
    · rw [if_neg (by rw [s1]; decide)]
      refine .inr ⟨s1, s2, ?_⟩
      rw [s1]
      unfold LS.said
      rw [if_pos (by decide)]
end Go.Proofs.YtccjkolcmdhliaaGreatDoor
/- A log appends and syncs: what its disk keeps (plain). -/
namespace Go.Proofs.YtccjkolcmdhliaaGreatDoor
open Go.RowKit Go.Maps Go.Sort
set_option linter.unusedVariables false

def updN {α : Type} (f : Nat → α) (n : Nat) (x : α) : Nat → α := fun k => if k = n then x else f k
theorem updN_same {α : Type} (f : Nat → α) (n : Nat) (x : α) : updN f n x n = x := by simp [updN]
theorem updN_other {α : Type} (f : Nat → α) {n m : Nat} (x : α) (h : m ≠ n) : updN f n x m = f m := by simp [updN, h]
theorem View.congr {D : DU} {a b : Nat} {fn fn' : Nat → Int} (h : View D a b fn) (e : ∀ k, a ≤ k → k < b → fn' k = fn k) : View D a b fn' :=
  ⟨h.lo, h.hi, fun s n => (h.get s n).trans ⟨fun ⟨k, h1, h2, h3, h4⟩ => ⟨k, h1, h2, h3, by rw [e k h1 h2]; exact h4⟩, fun ⟨k, h1, h2, h3, h4⟩ => ⟨k, h1, h2, h3, by rw [← e k h1 h2]; exact h4⟩⟩⟩
theorem rec_small {n : Int} {d : List UInt8} (h : (recB n d).2 = 0) : d.length ≤ 65524 ∧ (recB n d).1 = frameR (body n d) := by
  unfold recB at h ⊢
  split
  · rename_i hd; exact ⟨hd, rfl⟩
  · rename_i hd; rw [if_neg hd] at h; simp at h
/-- A record goes into the last segment. -/
theorem J.grown {S : AS} {all : List (List UInt8)} {F o A B : Nat} {fn : Nat → Int} {st : Nat → Nat} {N : Nat} (h : J S all F o A B fn st []) (hi : Inv N S) (hAB : A < B) (he : st B = all.length) {d : List UInt8} (hd : d.length ≤ 65524) (hfin : all.length < 1000000) {r : FR} (hr : S.file (fn (B - 1)) = some r) :
    J (S.written (fn (B - 1)) r (frameR (body ((all.length + 1 : Nat) : Int) d))) (all ++ [d]) F o A B fn (updN st B (all.length + 1)) [] := by
  have hlo := h.lo
  have hfile : ∀ k, A ≤ k → k < B → (S.written (fn (B - 1)) r (frameR (body ((all.length + 1 : Nat) : Int) d))).file (fn k) = if k = B - 1 then some { bytes := r.bytes ++ frameR (body ((all.length + 1 : Nat) : Int) d), firm := r.firm } else S.file (fn k) := fun k h1 h2 => by
    show upd S.file (fn (B - 1)) _ (fn k) = _
    by_cases e : k = B - 1
    · rw [e, upd_same, if_pos rfl]
    · rw [if_neg e, upd_other _ _ fun hh => e (h.inj k (B - 1) h1 h2 (by omega) (by omega) hh)]
  have hst : ∀ k, k < B → updN st B (all.length + 1) k = st k := fun k hk => updN_other _ _ (by omega)
  have hle : ∀ k, A ≤ k → k ≤ B → st k ≤ all.length := fun k h1 h2 => h.held.le k h1 h2
  have hFe := h.F_le
  refine ⟨h.lo, h.ab, h.hi, ⟨fun k h1 h2 => ?_, fun k h1 h2 => ?_, fun k h1 h2 => ?_, fun k h1 h2 => ?_, h.held.small.snoc hd, by simp; omega, h.held.torn⟩, fun k q h1 h2 hq => ?_, fun k q h1 h2 hq => ?_, h.inj, fun j hj => ?_, h.of⟩
  · rw [hst k h2]
    by_cases e : k + 1 = B
    · rw [e, updN_same]; have := hle k h1 (by omega); omega
    · rw [hst (k + 1) (by omega)]; exact h.held.up k h1 h2
  · rw [List.length_append, List.length_singleton]
    by_cases e : k = B
    · rw [e, updN_same]; omega
    · rw [hst k (by omega)]; have := hle k h1 h2; omega
  · obtain ⟨q, q1, q2, q3⟩ := h.held.whole k h1 h2
    rw [hst k (by omega), hst (k + 1) h2, seg_more (hle _ (by omega) (by omega))]
    exact ⟨q, by rw [hfile k h1 (by omega), if_neg (by omega)]; exact q1, q2, q3⟩
  · obtain ⟨q, q1, q2⟩ := h.held.last k h1 h2
    obtain rfl : k = B - 1 := by omega
    rw [hr] at q1
    cases q1
    refine ⟨_, by rw [hfile (B - 1) h1 (by omega), if_pos rfl], ?_⟩
    simp only
    rw [List.append_nil] at q2 ⊢
    rw [h2, he] at q2
    rw [q2, hst (B - 1) (by omega), h2, updN_same, seg_join (m := all.length) (hle _ h1 (by omega)) (Nat.le_succ _) (by simp), seg_more (Nat.le_refl _), seg_one rfl]
  · rw [hfile k h1 (by omega), if_neg (by omega)] at hq
    exact h.firmW k q h1 h2 hq
  · obtain rfl : k = B - 1 := by omega
    rw [hfile (B - 1) h1 (by omega), if_pos rfl] at hq
    cases hq
    simp only
    have := h.firmL (B - 1) r h1 h2 hr
    have h3 := hle (B - 1) h1 (by omega)
    rw [hst (B - 1) (by omega), seg_more (by omega)]
    exact this
  · obtain ⟨a, b, v1, v2, v3, v4, v5, v6, v7⟩ := h.views j hj
    have e : past (S.written (fn (B - 1)) r (frameR (body ((all.length + 1 : Nat) : Int) d))) j = past S j := rfl
    rw [e]
    refine ⟨a, b, v1, v2, v3, v4, ?_, ?_, v7⟩
    · by_cases e : a = B
      · have := v7 (by omega); omega
      · rw [hst a (by omega)]; exact v5
    · by_cases e : b = B
      · rw [e, updN_same]; omega
      · rw [hst b (by omega)]; exact v6
/-- A record goes into a new segment. -/
theorem J.newSeg {S : AS} {all : List (List UInt8)} {F o A B c : Nat} {fn : Nat → Int} {st : Nat → Nat} {N : Nat} (h : J S all F o A B fn st []) (hi : Inv N S) (hB : B < 190) (he : st B = all.length) {d : List UInt8} (hd : d.length ≤ 65524) (hfin : all.length < 1000000)
    (hc : A ≤ c) (hcB : c ≤ B) (hv : View S.names c B fn) (hso : st c ≤ o) (hw : ∀ r, A < B → S.file (fn (B - 1)) = some r → r.firm = r.bytes.length ∧ st (B - 1) < st B) :
    J ((S.made (nm B)).written (S.last + 1) { bytes := [], firm := 0 } (frameR (body ((all.length + 1 : Nat) : Int) d))) (all ++ [d]) F o A (B + 1) (updN fn B (S.last + 1)) (updN st (B + 1) (all.length + 1)) [] ∧
      View (S.made (nm B)).names c (B + 1) (updN fn B (S.last + 1)) := by
  have hlo := h.lo
  obtain ⟨rc, hrc⟩ : ∃ rc, frameR (body ((all.length + 1 : Nat) : Int) d) = rc := ⟨_, rfl⟩
  rw [hrc]
  have hfn : ∀ k, A ≤ k → k < B → fn k ≠ S.last + 1 := fun k h1 h2 hh => by
    obtain ⟨r, hr⟩ := h.held.there h1 h2
    have := (hi.file _ _ hr).2.1
    omega
  have hfile : ∀ k, A ≤ k → k < B + 1 → ((S.made (nm B)).written (S.last + 1) { bytes := [], firm := 0 } rc).file (updN fn B (S.last + 1) k) = if k = B then some { bytes := rc, firm := 0 } else S.file (fn k) := fun k h1 h2 => by
    show upd (upd S.file (S.last + 1) _) (S.last + 1) _ _ = _
    by_cases e : k = B
    · rw [e, updN_same, upd_same, if_pos rfl]; rfl
    · rw [updN_other _ _ e, if_neg e, upd_other _ _ (hfn k h1 (by omega)), upd_other _ _ (hfn k h1 (by omega))]
  have hst : ∀ k, k ≤ B → updN st (B + 1) (all.length + 1) k = st k := fun k hk => updN_other _ _ (by omega)
  have hle : ∀ k, A ≤ k → k ≤ B → st k ≤ all.length := fun k h1 h2 => h.held.le k h1 h2
  have hFe := h.F_le
  have hvn : View (S.made (nm B)).names c (B + 1) (updN fn B (S.last + 1)) := by
    have hne : nm B ≠ [] := fun e => by have := nm_ok (k := B) (by omega) (by omega); rw [e] at this; simp [nameOk] at this
    have e0 : (S.made (nm B)).names = (S.names.del (.string [])).put (.string (nm B)) (.lit (.int .i64 (S.last + 1))) := by
      show (Ch.mk [] (nm B) (S.last + 1)).app S.names = _
      unfold Ch.app; simp only; rw [if_neg hne]
    have hnil : look S.names [] = none := by
      cases hl : look S.names [] with
      | none => rfl
      | some m => have := hi.names.ok _ _ hl; simp [nameOk] at this
    have hnb : look S.names (nm B) = none := hv.not (by omega) (by omega) (by omega)
    refine ⟨hv.lo, by omega, fun s n => ?_⟩
    rw [e0]
    by_cases es : s = nm B
    · subst es
      rw [look_put_same (hi.names.isMap.del _)]
      constructor
      · intro hh
        exact ⟨B, hcB, by omega, rfl, by rw [updN_same]; exact (Option.some.inj hh).symm⟩
      · rintro ⟨k, k1, k2, k3, k4⟩
        have := hv.lo
        obtain rfl : B = k := nm_inj (by omega) (by omega) (by omega) (by omega) k3
        rw [k4, updN_same]
    · rw [look_put_other es]
      have hdel : look (S.names.del (.string [])) s = look S.names s := by
        by_cases e : s = []
        · rw [e, look_del_same, hnil]
        · exact look_del_other e
      rw [hdel, hv.get s n]
      constructor
      · rintro ⟨k, k1, k2, k3, k4⟩
        exact ⟨k, k1, by omega, k3, by rw [updN_other _ _ (by omega)]; exact k4⟩
      · rintro ⟨k, k1, k2, k3, k4⟩
        have hkB : k ≠ B := fun e => es (by rw [← e]; exact k3)
        exact ⟨k, k1, by omega, k3, by rw [updN_other _ _ hkB] at k4; exact k4⟩
  refine ⟨⟨h.lo, by have := h.ab; omega, by omega, ⟨fun k h1 h2 => ?_, fun k h1 h2 => ?_, fun k h1 h2 => ?_, fun k h1 h2 => ?_, h.held.small.snoc hd, by simp; omega, h.held.torn⟩, fun k q h1 h2 hq => ?_, fun k q h1 h2 hq => ?_, fun j k j1 j2 k1 k2 hh => ?_, fun j hj => ?_, h.of⟩, hvn⟩
  · rw [hst k (by omega)]
    by_cases e : k = B
    · rw [e, updN_same]; omega
    · rw [hst (k + 1) (by omega)]; exact h.held.up k h1 (by omega)
  · rw [List.length_append, List.length_singleton]
    by_cases e : k = B + 1
    · rw [e, updN_same]; omega
    · rw [hst k (by omega)]; have := hle k h1 (by omega); omega
  · by_cases e : k + 1 = B
    · obtain ⟨q, q1, q2⟩ := h.held.last k h1 e
      obtain rfl : k = B - 1 := by omega
      rw [hst (B - 1) (by omega), e, hst B (Nat.le_refl _), seg_more (by omega)]
      exact ⟨q, by rw [hfile (B - 1) h1 (by omega), if_neg (by omega)]; exact q1, by rw [List.append_nil, e] at q2; exact q2, (hw q (by omega) q1).2⟩
    · obtain ⟨q, q1, q2, q3⟩ := h.held.whole k h1 (by omega)
      rw [hst k (by omega), hst (k + 1) (by omega), seg_more (hle _ (by omega) (by omega))]
      exact ⟨q, by rw [hfile k h1 (by omega), if_neg (by omega)]; exact q1, q2, q3⟩
  · obtain rfl : k = B := by omega
    refine ⟨_, by rw [hfile k h1 (by omega), if_pos rfl], ?_⟩
    simp only
    rw [List.append_nil, hst k (Nat.le_refl _), updN_same, he, seg_one rfl, hrc]
  · rw [hfile k h1 (by omega), if_neg (by omega)] at hq
    by_cases e : k + 1 = B
    · obtain rfl : k = B - 1 := by omega
      exact (hw q (by omega) hq).1
    · exact h.firmW k q h1 (by omega) hq
  · obtain rfl : k = B := by omega
    rw [hst k (Nat.le_refl _), he, Nat.max_eq_right (by omega), seg_nil]
    exact Nat.zero_le _
  · by_cases ej : j = B
    · by_cases ek : k = B
      · omega
      · rw [ej, updN_same, updN_other _ _ ek] at hh
        exact absurd hh.symm (hfn k k1 (by omega))
    · by_cases ek : k = B
      · rw [ek, updN_same, updN_other _ _ ej] at hh
        exact absurd hh (hfn j j1 (by omega))
      · rw [updN_other _ _ ej, updN_other _ _ ek] at hh
        exact h.inj j k j1 (by omega) k1 (by omega) hh
  · have hll : ((S.made (nm B)).written (S.last + 1) { bytes := [], firm := 0 } rc).loose.length = S.loose.length + 1 := by
      show (S.loose ++ [_]).length = _; simp
    rw [hll] at hj
    by_cases e : j = S.loose.length + 1
    · have ep : past ((S.made (nm B)).written (S.last + 1) { bytes := [], firm := 0 } rc) j = (S.made (nm B)).names := by
        have e1 : past ((S.made (nm B)).written (S.last + 1) { bytes := [], firm := 0 } rc) j = past (S.opened.altered (Ch.mk [] (nm B) (S.last + 1))) j := past_same rfl rfl j
        have e2 : (S.opened.altered (Ch.mk [] (nm B) (S.last + 1))).loose.length = j := by show (S.loose ++ [_]).length = _; simp; omega
        rw [e1, ← e2, past_app_last]
        have e3 : past S.opened S.opened.loose.length = S.names := (past_same (S := S) (S' := S.opened) rfl rfl _).trans hi.now.symm
        rw [e3]
        rfl
      rw [ep]
      refine ⟨c, B + 1, hc, by omega, Nat.le_refl _, hvn, by rw [hst c hcB]; exact hso, by rw [updN_same]; omega, fun e => by omega⟩
    · obtain ⟨a, b, v1, v2, v3, v4, v5, v6, v7⟩ := h.views j (by omega)
      have ep : past ((S.made (nm B)).written (S.last + 1) { bytes := [], firm := 0 } rc) j = past S j := by
        have e1 : past ((S.made (nm B)).written (S.last + 1) { bytes := [], firm := 0 } rc) j = past (S.opened.altered (Ch.mk [] (nm B) (S.last + 1))) j := past_same rfl rfl j
        rw [e1, past_app S.opened _ j (by show j ≤ S.loose.length; omega)]
        exact past_same rfl rfl j
      rw [ep]
      exact ⟨a, b, v1, v2, by omega, v4.congr fun k k1 k2 => updN_other _ _ (by omega), by rw [hst a (by omega)]; exact v5, by rw [hst b (by omega)]; exact v6, v7⟩
end Go.Proofs.YtccjkolcmdhliaaGreatDoor
/- Append and Sync of a log that is whole (plain). -/
namespace Go.Proofs.YtccjkolcmdhliaaGreatDoor
open Go.RowKit Go.Maps Go.Sort
set_option linter.unusedVariables false

theorem Inv.doSync {N : Nat} {S : AS} (h : Inv N S) (l : List UInt8) : Inv N (S.sync l).1 := by
  unfold AS.sync
  split
  · cases hl : look S.names l with
    | none => exact h
    | some n =>
      cases hr : S.file n with
      | none => simp only [hr]; exact h
      | some r =>
        simp only [hr]
        split
        · have hr1 : S.step.file n = some r := by rw [(step_same S).2.2.2.1]; exact hr
          have hf := h.file n r hr
          exact h.step.turn hr1 (r' := { bytes := r.bytes, firm := r.bytes.length }) (Nat.le_refl _) hf.2.2.2
        · exact h.step
  · exact h
/-- A write goes well, or there is no room, or the power goes out in it. -/
def WrC (d : List UInt8) (S : AS) (L : LS) (all : List (List UInt8)) (F o A B c : Nat) (R : AS × LS × Int) : Prop :=
  (R.2.2 = 0 ∧ ∃ B' fn' st', H R.1 R.2.1 (all ++ [d]) F o A B' c fn' st' ∧ B' ≤ B + 1) ∨ (R.2.2 = 12 ∧ R.1 = S ∧ R.2.1 = L) ∨
    (R.2.2 = 13 ∧ R.2.1.fault = 13 ∧ ∃ B' fn' st', J R.1 (all ++ [d]) F o A B' fn' st' [] ∧ B' ≤ B + 1)
/-- What Append comes to: the number and the error. -/
def AppC (d : List UInt8) (all : List (List UInt8)) (F o A B c : Nat) (fn : Nat → Int) (st : Nat → Nat) (R : AS × LS × Int × Int) : Prop :=
  (R.2.2.1 = ((all.length + 1 : Nat) : Int) ∧ R.2.2.2 = 0 ∧ d.length ≤ 65524 ∧ ∃ B' fn' st', H R.1 R.2.1 (all ++ [d]) F o A B' c fn' st' ∧ B' ≤ B + 1) ∨
    (R.2.2.1 = 0 ∧ (R.2.2.2 = 12 ∧ d.length ≤ 65524 ∨ R.2.2.2 = 23 ∧ 65524 < d.length) ∧ H R.1 R.2.1 all F o A B c fn st) ∨
    (R.2.2.1 = 0 ∧ R.2.2.2 = 13 ∧ d.length ≤ 65524 ∧ R.2.1.fault = 13 ∧ ∃ B' fn' st', J R.1 (all ++ [d]) F o A B' fn' st' [] ∧ B' ≤ B + 1)
theorem H.writeL_cases {S : AS} {L : LS} {all : List (List UInt8)} {F o A B c : Nat} {fn : Nat → Int} {st : Nat → Nat} {N : Nat} (h : H S L all F o A B c fn st) (hi : Inv N S) (hB : B < 190) (hfin : all.length < 1000000) {d : List UInt8} (hd : d.length ≤ 65524) (n : Int)
    (hn : (n = ((B - 1 : Nat) : Int) ∧ c < B) ∨ (n = (B : Int) ∧ L.bytes = false ∧ (c < B → st (B - 1) < st B))) :
    WrC d S L all F o A B c (writeL S L n (frameR (body ((all.length + 1 : Nat) : Int) d))) := by
  unfold WrC
  have hlo := h.j.lo
  have hac := h.ac
  have hcb := h.cb
  have hlen := h.len
  obtain ⟨rc, hrc⟩ : ∃ rc, frameR (body ((all.length + 1 : Nat) : Int) d) = rc := ⟨_, rfl⟩
  obtain ⟨e1, e2, e3, e4, e5, e6⟩ := step_same S
  have hsaid : ∀ E : Int, (L.said 12) = L ∧ (L.said 13).fault = 13 := fun _ => by
    unfold LS.said
    exact ⟨if_neg (by decide), by rw [if_pos (by decide)]⟩
  rcases hn with ⟨rfl, hc⟩ | ⟨rfl, hbf, hst⟩
  · -- into the last one
    have hl := h.view.at (k := B - 1) (by omega) (by omega)
    obtain ⟨r, hr⟩ := h.j.held.there (k := B - 1) (by omega) (by omega)
    have hg := h.j.grown hi (by omega) hlen hd hfin hr
    rw [hrc] at hg ⊢
    have hi2 := (hi.file _ _ hr).2.2
    have hw : S.write (nm (B - 1)) rc = if S.room < usedOf S.file S.names + rc.length then (S, 12) else ((S.written (fn (B - 1)) r rc).step, S.stepE) := by
      unfold AS.write
      rw [if_pos (h.check (by omega) (by omega)), hl]
      simp only [hr]
    unfold writeL
    rw [show nameW ((B - 1 : Nat) : Int) = nm (B - 1) from rfl, hw]
    by_cases hroom : S.room < usedOf S.file S.names + rc.length
    · rw [if_pos hroom]
      simp only
      rw [if_neg (by decide)]
      exact .inr (.inl ⟨rfl, rfl, (hsaid 0).1⟩)
    · rw [if_neg hroom]
      simp only
      have hstep : J (S.written (fn (B - 1)) r rc).step (all ++ [d]) F o A B fn (updN st B (all.length + 1)) [] := by
        obtain ⟨g1, g2, g3, g4, g5, g6⟩ := step_same (S.written (fn (B - 1)) r rc)
        refine hg.file g2 g3 fun k q h1 h2 hq => ⟨q, by rw [g4]; exact hq, rfl, Nat.le_refl _, ?_⟩
        have hq' : upd S.file (fn (B - 1)) (some { bytes := r.bytes ++ rc, firm := r.firm }) (fn k) = some q := hq
        by_cases e : fn k = fn (B - 1)
        · rw [e, upd_same] at hq'
          cases hq'
          simp only [List.length_append]; omega
        · rw [upd_other _ _ e] at hq'
          exact (hi.file _ _ hq').2.2.1
      rcases stepE_01 S with he | he
      · rw [if_pos he]
        left
        refine ⟨rfl, B, fn, updN st B (all.length + 1), ?_, Nat.le_succ _⟩
        have hput : L.put ((B - 1 : Nat) : Int) rc.length = { L with files := (List.range' c (B - 1 - c)).map (segL st) ++ [⟨((B - 1 : Nat) : Int), L.last + 1⟩], last := L.last + 1, size := L.size + rc.length, bytes := true } := by
          have hfs : L.files = (List.range' c (B - 1 - c)).map (segL st) ++ [segL st (B - 1)] := by
            rw [h.files, show B - c = (B - 1 - c) + 1 by omega, List.range'_concat, List.map_append, List.map_singleton]
            congr 3; omega
          unfold LS.put LS.begun
          rw [if_pos h.number.symm, more_eq hfs]
          rfl
        simp only
        rw [hput]
        have hst' : ∀ k, k < B → updN st B (all.length + 1) k = st k := fun k hk => updN_other _ _ (by omega)
        have hle := h.j.held.le (B - 1) (by omega) (by omega)
        refine ⟨hstep, ?_, h.fault, by rw [h.last]; simp, by rw [updN_same]; simp, h.firm, h.ac, h.cb, ?_, ?_, h.em, ?_, fun _ => ?_, fun h0 => by simp at h0, fun _ => hc, fun hn => ?_⟩
        · have : (S.written (fn (B - 1)) r rc).stepE = 0 := he
          rw [step_on this]; exact h.on
        · rw [(step_same (S.written (fn (B - 1)) r rc)).1]; exact h.view
        · rw [hst' c hc]; exact h.so
        · simp only
          rw [show B - c = (B - 1 - c) + 1 by omega, List.range'_concat, List.map_append, List.map_singleton]
          congr 1
          · refine List.map_congr_left fun k hk => ?_
            rw [List.mem_range'_1] at hk
            unfold segL
            rw [hst' k (by omega), hst' (k + 1) (by omega)]
          · rw [show c + 1 * (B - 1 - c) = B - 1 by omega]
            unfold segL
            rw [show B - 1 + 1 = B by omega, updN_same, hst' (B - 1) (by omega), if_pos (by omega), h.last]
            simp
        · rw [updN_same, hst' (B - 1) (by omega), seg_join (m := all.length) hle (Nat.le_succ _) (by simp), seg_more (Nat.le_refl _), seg_one rfl, hrc, List.length_append]
          simp only
          rw [h.size hc, hlen]
          simp
        · rw [(step_same (S.written (fn (B - 1)) r rc)).2.2.1]; exact h.names hn
      · rw [if_neg (by rw [he]; decide)]
        refine .inr (.inr ⟨he, by rw [he]; exact (hsaid 0).2, B, fn, _, hstep, Nat.le_succ _⟩)
  · -- into a new one
    have hg := h.j.newSeg hi hB hlen hd hfin h.ac h.cb h.view h.so fun r hAB hr => by
      have hcB : c < B := by
        by_cases e : c = B
        · have := h.em e; omega
        · omega
      exact ⟨h.synced hbf hcB r hr, hst hcB⟩
    rw [hrc] at hg ⊢
    obtain ⟨hg, hgv⟩ := hg
    have hl : look S.names (nm B) = none := h.view.not (by omega) (by omega) (by omega)
    have hw : S.write (nm B) rc = if S.room < usedOf S.file S.names + rc.length then (S, 12) else if 64 ≤ Maps.size S.names then (S, 12) else (((S.made (nm B)).written (S.last + 1) { bytes := [], firm := 0 } rc).step, S.stepE) := by
      unfold AS.write
      rw [if_pos (h.check (by omega) (by omega)), hl]
    unfold writeL
    rw [show nameW (B : Int) = nm B from rfl, hw]
    by_cases hroom : S.room < usedOf S.file S.names + rc.length
    · rw [if_pos hroom]
      simp only
      rw [if_neg (by decide)]
      exact .inr (.inl ⟨rfl, rfl, (hsaid 0).1⟩)
    · rw [if_neg hroom]
      by_cases h64 : 64 ≤ Maps.size S.names
      · rw [if_pos h64]
        simp only
        rw [if_neg (by decide)]
        exact .inr (.inl ⟨rfl, rfl, (hsaid 0).1⟩)
      · rw [if_neg h64]
        simp only
        obtain ⟨SN, hSN⟩ : ∃ SN, (S.made (nm B)).written (S.last + 1) { bytes := [], firm := 0 } rc = SN := ⟨_, rfl⟩
        have hon2 : SN.on = S.on := by rw [← hSN]; rfl
        have hnm2 : SN.names = (S.made (nm B)).names := by rw [← hSN]; rfl
        have hse : SN.stepE = S.stepE := by rw [← hSN]; rfl
        have hsane : ∀ n q, SN.file n = some q → q.firm ≤ q.bytes.length := fun n q hq => by
          rw [← hSN] at hq
          have hq' : upd (upd S.file (S.last + 1) (some { bytes := [], firm := 0 })) (S.last + 1) (some { bytes := [] ++ rc, firm := 0 }) n = some q := hq
          by_cases e : n = S.last + 1
          · rw [e, upd_same] at hq'; cases hq'; exact Nat.zero_le _
          · rw [upd_other _ _ e, upd_other _ _ e] at hq'; exact (hi.file _ _ hq').2.2.1
        rw [hSN] at hg ⊢
        obtain ⟨g1, g2, g3, g4, g5, g6⟩ := step_same SN
        have hstep := hg.file g2 g3 fun k q h1 h2 hq => ⟨q, by rw [g4]; exact hq, rfl, Nat.le_refl _, hsane _ _ hq⟩
        rcases stepE_01 S with he | he
        · rw [if_pos he]
          left
          refine ⟨rfl, B + 1, updN fn B (S.last + 1), updN st (B + 1) (all.length + 1), ?_, Nat.le_refl _⟩
          have hnb : (B : Int) ≠ L.number := by rw [h.number]; omega
          have hput : L.put (B : Int) rc.length = { L with files := L.files ++ [⟨(B : Int), L.last + 1⟩], last := L.last + 1, size := 0 + rc.length, bytes := true, names := true } := by
            unfold LS.put LS.begun
            rw [if_neg hnb, more_eq (fs := L.files) (s := ⟨(B : Int), 0⟩) rfl]
          simp only
          rw [hput]
          have hst' : ∀ k, k ≤ B → updN st (B + 1) (all.length + 1) k = st k := fun k hk => updN_other _ _ (by omega)
          refine ⟨hstep, ?_, h.fault, by rw [h.last]; simp, by rw [updN_same]; simp, h.firm, h.ac, by omega, by rw [g1, hnm2]; exact hgv, by rw [hst' c hcb]; exact h.so, fun e => by omega, ?_, fun _ => ?_, fun h0 => by simp at h0, fun _ => by omega, fun hn => by simp at hn⟩
          · rw [step_on (by rw [hse]; exact he), hon2]; exact h.on
          · simp only
            rw [show B + 1 - c = (B - c) + 1 by omega, List.range'_concat, List.map_append, List.map_singleton, h.files]
            congr 1
            · refine List.map_congr_left fun k hk => ?_
              rw [List.mem_range'_1] at hk
              unfold segL
              rw [hst' k (by omega), hst' (k + 1) (by omega)]
            · rw [show c + 1 * (B - c) = B by omega]
              unfold segL
              rw [updN_same, hst' B (Nat.le_refl _), hlen, if_pos (by omega), h.last]
              simp
          · rw [show B + 1 - 1 = B by omega, updN_same, hst' B (Nat.le_refl _), hlen, seg_one rfl, hrc]
            simp
        · rw [if_neg (by rw [he]; decide)]
          refine .inr (.inr ⟨he, by rw [he]; exact (hsaid 0).2, B + 1, _, _, hstep, Nat.le_refl _⟩)
theorem H.append_cases {S : AS} {L : LS} {all : List (List UInt8)} {F o A B c : Nat} {fn : Nat → Int} {st : Nat → Nat} {N : Nat} (h : H S L all F o A B c fn st) (hi : Inv N S) (hB : B < 190) (hfin : all.length < 1000000) (d : List UInt8) :
    AppC d all F o A B c fn st (appendL S L d) := by
  have hlo := h.j.lo
  have hle := h.j.held.fin
  have hab := h.j.ab
  have hac := h.ac
  have hlast : L.last + 1 = ((all.length + 1 : Nat) : Int) := by rw [h.last]; simp
  unfold appendL
  rw [if_neg (by rw [h.fault]; simp), if_neg (by rw [h.last]; omega), hlast]
  by_cases hrec : (recB ((all.length + 1 : Nat) : Int) d).2 = 0
  · obtain ⟨hd, hrb⟩ := rec_small hrec
    rw [if_neg (by rw [hrec]; simp), hrb]
    have main : ∀ (S1 : AS) (L1 : LS) (n : Int), H S1 L1 all F o A B c fn st → Inv N S1 → ((n = ((B - 1 : Nat) : Int) ∧ c < B) ∨ (n = (B : Int) ∧ L1.bytes = false ∧ (c < B → st (B - 1) < st B))) →
        AppC d all F o A B c fn st (if (writeL S1 L1 n (frameR (body ((all.length + 1 : Nat) : Int) d))).2.2 ≠ 0 then ((writeL S1 L1 n (frameR (body ((all.length + 1 : Nat) : Int) d))).1, (writeL S1 L1 n (frameR (body ((all.length + 1 : Nat) : Int) d))).2.1, 0, (writeL S1 L1 n (frameR (body ((all.length + 1 : Nat) : Int) d))).2.2) else ((writeL S1 L1 n (frameR (body ((all.length + 1 : Nat) : Int) d))).1, (writeL S1 L1 n (frameR (body ((all.length + 1 : Nat) : Int) d))).2.1, (writeL S1 L1 n (frameR (body ((all.length + 1 : Nat) : Int) d))).2.1.last, 0)) := fun S1 L1 n h1 hi1 hn => by
      have hw := h1.writeL_cases hi1 hB hfin hd n hn
      generalize writeL S1 L1 n (frameR (body ((all.length + 1 : Nat) : Int) d)) = R at hw ⊢
      unfold AppC
      rcases hw with ⟨w1, B', fn', st', w2, w3⟩ | ⟨w1, w2, w3⟩ | ⟨w1, w2, B', fn', st', w3, w4⟩
      · rw [if_neg (by rw [w1]; simp)]
        exact .inl ⟨by simp only; rw [w2.last]; simp, rfl, hd, B', fn', st', w2, w3⟩
      · rw [if_pos (by rw [w1]; simp)]
        refine .inr (.inl ⟨rfl, .inl ⟨w1, hd⟩, ?_⟩)
        simp only
        rw [w2, w3]; exact h1
      · rw [if_pos (by rw [w1]; simp)]
        exact .inr (.inr ⟨rfl, w1, hd, w2, B', fn', st', w3, w4⟩)
    by_cases hgo : 0 < L.number ∧ L.size < 4096
    · have hp : placeL S L = (S, L, L.number, 0) := by unfold placeL; rw [if_pos hgo]
      have hcB : c < B := by
        have h1 := hgo.1
        rw [h.number] at h1
        by_cases e : c = B
        · have := h.em e; omega
        · have := h.cb; omega
      rw [hp]
      simp only
      rw [if_neg (by simp)]
      exact main S L L.number h hi (.inl ⟨h.number, hcB⟩)
    · have hsb := h.doSyncB hi
      have hinv : Inv N (syncB S L).1 := by
        unfold syncB
        split
        · split
          · exact hi.doSync _
          · exact hi.doSync _
        · exact hi
      rcases hsb with ⟨s1, s2, s3, s4, s5⟩ | ⟨s1, s2, s3⟩
      · have hp : placeL S L = ((syncB S L).1, (syncB S L).2.1, L.number + 1, 0) := by unfold placeL; rw [if_neg hgo, if_pos s1]
        have hnum : L.number + 1 = (B : Int) := by rw [h.number]; omega
        rw [hnum] at hp
        rw [hp]
        simp only
        rw [if_neg (by simp)]
        refine main _ _ _ s2 hinv (.inr ⟨rfl, s3, fun hcB => ?_⟩)
        have hsz : ¬ L.size < 4096 := fun hh => hgo ⟨by have := h.number; omega, hh⟩
        rw [h.size hcB] at hsz
        have h1 := h.j.held.up (B - 1) (by have := h.ac; omega) (by omega)
        rw [show B - 1 + 1 = B by omega] at h1
        refine Nat.lt_of_le_of_ne h1 fun e => hsz ?_
        rw [e, seg_nil]
        simp
      · have hp : placeL S L = ((syncB S L).1, (syncB S L).2.1, 0, (syncB S L).2.2) := by unfold placeL; rw [if_neg hgo, if_neg (by rw [s1]; decide)]
        rw [hp]
        simp only
        rw [if_pos (by rw [s1]; simp), s1]
        exact .inr (.inr ⟨rfl, rfl, hd, s3, B, fn, st, s2.more hd (by omega), Nat.le_succ _⟩)
  · have hr23 : (recB ((all.length + 1 : Nat) : Int) d).2 = 23 := by
      rcases recB_err ((all.length + 1 : Nat) : Int) d with e | e
      · exact absurd e hrec
      · exact e
    rw [if_pos hrec, hr23]
    have hbig : 65524 < d.length := by
      refine Decidable.byContradiction fun hc => hrec ?_
      unfold recB
      rw [if_pos (by omega)]
    exact .inr (.inl ⟨rfl, .inr ⟨rfl, hbig⟩, h⟩)
end Go.Proofs.YtccjkolcmdhliaaGreatDoor
/- Sync of a log that is whole; a crash (plain). -/
namespace Go.Proofs.YtccjkolcmdhliaaGreatDoor
open Go.RowKit Go.Maps Go.Sort
set_option linter.unusedVariables false

/-- All is firm. -/
theorem J.firmed {S : AS} {all : List (List UInt8)} {F o A B c : Nat} {fn : Nat → Int} {st : Nat → Nat} {N : Nat} (h : J S all F o A B fn st []) (hi : Inv N S) (hl : S.loose = []) (hlen : st B = all.length) (hc : A ≤ c) (hcB : c ≤ B) (hv : View S.names c B fn) (hso : st c ≤ o) (hem : c = B → c = 1)
    (hf : ∀ r, A < B → S.file (fn (B - 1)) = some r → r.firm = r.bytes.length) : J S all all.length o A B fn st [] := by
  refine ⟨h.lo, h.ab, h.hi, h.held, h.firmW, fun k r h1 h2 hr => ?_, h.inj, fun j hj => ?_, by have := h.of; have := h.F_le; omega⟩
  · obtain rfl : k = B - 1 := by omega
    obtain ⟨q, q1, q2⟩ := h.held.last (B - 1) h1 h2
    rw [hr] at q1
    cases q1
    have h3 := h.held.le (B - 1) h1 (by omega)
    rw [hf r (by omega) hr, q2, List.append_nil, h2, hlen, Nat.max_eq_left h3]
    exact Nat.le_refl _
  · have e : past S j = S.names := by
      have := hi.now
      rw [hl] at this hj
      have hj0 : j = 0 := by simpa using hj
      rw [hj0]
      exact this.symm
    rw [e]
    exact ⟨c, B, hc, hcB, Nat.le_refl _, hv, hso, by omega, hem⟩
theorem H.sync_cases {S : AS} {L : LS} {all : List (List UInt8)} {F o A B c : Nat} {fn : Nat → Int} {st : Nat → Nat} {N : Nat} (h : H S L all F o A B c fn st) (hi : Inv N S) :
    ((syncL S L).2.2 = 0 ∧ ∃ A', H (syncL S L).1 (syncL S L).2.1 all all.length o A' B c fn st) ∨ ((syncL S L).2.2 = 13 ∧ (syncL S L).2.1.fault = 13 ∧ J (syncL S L).1 all F o A B fn st []) := by
  have hinv : Inv N (syncB S L).1 := by
    unfold syncB
    split
    · split
      · exact hi.doSync _
      · exact hi.doSync _
    · exact hi
  have hlo := h.j.lo
  have hac := h.ac
  have hcb := h.cb
  unfold syncL
  rw [if_neg (by rw [h.fault]; simp)]
  rcases h.doSyncB hi with ⟨s1, s2, s3, s4, s5⟩ | ⟨s1, s2, s3⟩
  · rw [if_neg (by rw [s1]; simp)]
    obtain ⟨S1, hS1⟩ : ∃ S1, (syncB S L).1 = S1 := ⟨_, rfl⟩
    obtain ⟨L1, hL1⟩ : ∃ L1, (syncB S L).2.1 = L1 := ⟨_, rfl⟩
    rw [hS1] at s2 s5 hinv ⊢
    rw [hL1] at s2 s3 s4 ⊢
    have hfull : ∀ r, A < B → S1.file (fn (B - 1)) = some r → r.firm = r.bytes.length := fun r hAB hr => by
      refine s2.synced s3 ?_ r hr
      by_cases e : c = B
      · have := h.em e; omega
      · omega
    cases hn : L1.names with
    | false =>
      rw [if_neg (by simp)]
      have hl := s2.names hn
      refine .inl ⟨rfl, A, s2.j.firmed hinv hl s2.len s2.ac s2.cb s2.view s2.so s2.em hfull, s2.on, s2.fault, s2.last, s2.len, s2.last, s2.ac, s2.cb, s2.view, s2.so, s2.em, s2.files, s2.size, s2.synced, s2.some_, s2.names⟩
    | true =>
      rw [if_pos rfl]
      have hse : S1.settle = if S1.stepE = 0 then (S1.step.settled, 0) else (S1.step, 13) := by unfold AS.settle; rw [if_pos s2.on]
      obtain ⟨e1, e2, e3, e4, e5, e6⟩ := step_same S1
      rcases stepE_01 S1 with he | he
      · rw [if_pos he] at hse
        have hsl : settleL S1 L1 = (S1.step.settled, { L1 with names := false }, 0) := by unfold settleL; rw [hse]; rfl
        rw [hsl]
        simp only
        rw [if_neg (by simp)]
        have hj1 := (s2.j.step hinv).settled hinv.step s2.ac s2.cb (by rw [e1]; exact s2.view) s2.so s2.em
        have hfile : ∀ r, c < B → S1.step.settled.file (fn (B - 1)) = some r → S1.file (fn (B - 1)) = some r := fun r hcB hr => by
          have hr' : (if keeps S1.step.names (fn (B - 1)) = true then S1.step.file (fn (B - 1)) else none) = some r := hr
          split at hr'
          · rw [e4] at hr'; exact hr'
          · cases hr'
        have hj2 := hj1.firmed hinv.step.settled rfl s2.len (Nat.le_refl _) s2.cb (by show View S1.step.names c B fn; rw [e1]; exact s2.view) s2.so s2.em fun r hcB hr => hfull r (by omega) (hfile r hcB hr)
        refine .inl ⟨rfl, c, hj2, by show S1.step.on = true; rw [step_on he]; exact s2.on, s2.fault, s2.last, s2.len, s2.last, Nat.le_refl _, s2.cb, by show View S1.step.names c B fn; rw [e1]; exact s2.view, s2.so, s2.em, s2.files, s2.size, fun _ hcB r hr => hfull r (by omega) (hfile r hcB hr), s2.some_, fun _ => rfl⟩
      · rw [if_neg (by rw [he]; decide)] at hse
        have hsl : settleL S1 L1 = (S1.step, L1.said 13, 13) := by unfold settleL; rw [hse]; rfl
        rw [hsl]
        simp only
        rw [if_pos (by simp)]
        refine .inr ⟨rfl, ?_, s2.j.step hinv⟩
        unfold LS.said
        rw [if_pos (by decide)]
  · rw [if_pos (by rw [s1]; simp)]
    exact .inr ⟨s1, s3, s2⟩

/-! ### a crash -/
/-- What a crash may leave of a file. -/
def Left (r r' : FR) : Prop := (∃ m, r'.bytes = r.bytes.take m ∧ r.firm ≤ m) ∧ r.firm ≤ r'.firm ∧ r'.firm ≤ r'.bytes.length ∧ (r.firm = r.bytes.length → r'.firm = r'.bytes.length)
theorem Left.refl {r : FR} (h : r.firm ≤ r.bytes.length) : Left r r := ⟨⟨r.bytes.length, by simp, h⟩, Nat.le_refl _, h, id⟩
theorem Left.trans {a b c : FR} (h : Left a b) (k : Left b c) : Left a c := by
  obtain ⟨⟨m, h1, h2⟩, h3, h4, h5⟩ := h
  obtain ⟨⟨n, k1, k2⟩, k3, k4, k5⟩ := k
  exact ⟨⟨min n m, by rw [k1, h1, List.take_take], by omega⟩, by omega, k4, fun e => k5 (h5 e)⟩
theorem crash_left {r : FR} (h : r.firm ≤ r.bytes.length) (ps : List Int) : Left r (r.crash ps) ∧ (r.crash ps).firm = (r.crash ps).bytes.length := by
  unfold FR.crash
  split
  · rename_i hlt
    have hp := pickN_bd ps ((r.bytes.length : Int) - r.firm) (by omega)
    have hl : (r.bytes.take (r.firm + (pickN ps ((r.bytes.length : Int) - r.firm)).toNat)).length = r.firm + (pickN ps ((r.bytes.length : Int) - r.firm)).toNat := by rw [List.length_take]; omega
    exact ⟨⟨⟨_, rfl, by omega⟩, by simp only; omega, by simp only; omega, fun e => by omega⟩, by simp only; omega⟩
  · exact ⟨⟨⟨r.bytes.length, by simp, h⟩, h, Nat.le_refl _, fun _ => rfl⟩, rfl⟩
theorem fold_left (D : DU) (n : Int) : ∀ (ls : List (List UInt8)) (x : (Int → Option FR) × List Int) (r : FR), x.1 n = some r → r.firm ≤ r.bytes.length →
    ∃ r', (ls.foldl (crashStep D) x).1 n = some r' ∧ Left r r' ∧ ((∃ l ∈ ls, look D l = some n) → r'.firm = r'.bytes.length)
  | [], x, r, hr, hs => ⟨r, hr, Left.refl hs, fun ⟨l, hl, _⟩ => by cases hl⟩
  | l :: ls, x, r, hr, hs => by
    rw [List.foldl_cons]
    by_cases hl : look D l = some n
    · have e := crashStep_some (st := x) hl hr
      obtain ⟨c1, c2⟩ := crash_left hs x.2
      obtain ⟨r', h1, h2, h3⟩ := fold_left D n ls (crashStep D x l) (r.crash x.2) (by rw [e]; exact upd_same _ _ _) c1.2.2.1
      exact ⟨r', h1, c1.trans h2, fun _ => h2.2.2.2 c2⟩
    · have hx : (crashStep D x l).1 n = some r := by
        unfold crashStep
        cases hm : look D l with
        | none => exact hr
        | some m =>
          cases hq : x.1 m with
          | none => simp only [hq]; exact hr
          | some q =>
            simp only [hq]
            rw [upd_other _ _ fun e => hl (by rw [hm, e])]
            exact hr
      obtain ⟨r', h1, h2, h3⟩ := fold_left D n ls (crashStep D x l) r hx hs
      refine ⟨r', h1, h2, fun ⟨l', hl', hn'⟩ => ?_⟩
      rcases List.mem_cons.1 hl' with rfl | hl'
      · exact absurd hn' hl
      · exact h3 ⟨l', hl', hn'⟩
/-- What a crash leaves. -/
theorem J.crash {S : AS} {all : List (List UInt8)} {F o A B : Nat} {fn : Nat → Int} {st : Nat → Nat} {t : List UInt8} {N : Nat} (h : J S all F o A B fn st t) (hi : Inv N S) (ps : List Int) :
    ∃ a b st' t', J (S.crashed ps) all F o a b fn st' t' ∧ b ≤ B ∧ View (S.crashed ps).names a b fn ∧ st' a ≤ o ∧ (a = b → a = 1) ∧ (S.crashed ps).on = true ∧ (S.crashed ps).loose = [] := by
  have hk : (pickN ps (S.loose.length : Int)).toNat ≤ S.loose.length := by have := pickN_bd ps (S.loose.length : Int) (by omega); omega
  have hgk := hi.good _ hk
  obtain ⟨a, b, v1, v2, v3, v4, v5, v6, v7⟩ := h.views _ hk
  have hlo := h.lo
  have hhi := h.hi
  unfold AS.crashed
  generalize (pickN ps (S.loose.length : Int)).toNat = q at *
  have hkeys := v4.keys hgk
  have hfile : ∀ k r, a ≤ k → k < b → S.file (fn k) = some r → ∃ r', ((sortedKeys (past S q)).foldl (crashStep (past S q)) (S.file, ps.tail)).1 (fn k) = some r' ∧ Left r r' ∧ r'.firm = r'.bytes.length := fun k r h1 h2 hr => by
    obtain ⟨r', r1, r2, r3⟩ := fold_left (past S q) (fn k) (sortedKeys (past S q)) (S.file, ps.tail) r hr (hi.file _ _ hr).2.2.1
    refine ⟨r', r1, r2, r3 ⟨nm k, ?_, v4.at h1 h2⟩⟩
    rw [hkeys]
    exact List.mem_map.2 ⟨k, List.mem_range'_1.2 (by omega), rfl⟩
  generalize ((sortedKeys (past S q)).foldl (crashStep (past S q)) (S.file, ps.tail)).1 = f at *
  obtain ⟨SC, hSC⟩ : ∃ SC, AS.arm { AS.settled { S with names := past S q, file := f } with on := true } (-1) = SC := ⟨_, rfl⟩
  rw [hSC]
  have hnames : SC.names = past S q := by rw [← hSC]; rfl
  have hloose : SC.loose = [] := by rw [← hSC]; rfl
  have hfirm : SC.firm = past S q := by rw [← hSC]; rfl
  have hon : SC.on = true := by rw [← hSC]; rfl
  have hfn : ∀ k, a ≤ k → k < b → SC.file (fn k) = f (fn k) := fun k h1 h2 => by
    rw [← hSC]
    show (if keeps (past S q) (fn k) = true then f (fn k) else none) = _
    rw [if_pos (keeps_of hgk (v4.at h1 h2))]
  have hpast : ∀ j, j ≤ SC.loose.length → past SC j = past S q := fun j hj => by
    rw [hloose] at hj
    have : j = 0 := by simpa using hj
    rw [this, past_zero, hfirm]
  have hof := h.of
  by_cases hab : a = b
  · refine ⟨a, b, st, [], ⟨by omega, by omega, by omega, ⟨fun k h1 h2 => by omega, fun k h1 h2 => h.held.le k (by omega) (by omega), fun k h1 h2 => by omega, fun k h1 h2 => by omega, h.held.small, h.held.fin, .inl rfl⟩, fun k r h1 h2 => by omega, fun k r h1 h2 => by omega, fun j k h1 h2 => by omega, fun j hj => ?_, h.of⟩, v3, by rw [hnames]; exact v4, v5, v7, hon, hloose⟩
    rw [hpast j hj]
    exact ⟨a, b, Nat.le_refl _, v2, Nat.le_refl _, v4, v5, v6, v7⟩
  · have hw : ∀ k, a ≤ k → k + 1 < B → k < b → ∃ r, SC.file (fn k) = some r ∧ r.bytes = seg all (st k) (st (k + 1)) ∧ r.firm = r.bytes.length := fun k h1 h2 h3 => by
      obtain ⟨r, r1, r2, r3⟩ := h.held.whole k (by omega) h2
      obtain ⟨r', q1, ⟨⟨m, q2, q3⟩, _⟩, q4⟩ := hfile k r h1 h3 r1
      have := h.firmW k r (by omega) h2 r1
      refine ⟨r', by rw [hfn k h1 h3]; exact q1, ?_, q4⟩
      rw [q2, List.take_of_length_le (by omega), r2]
    by_cases hbB : b < B
    · refine ⟨a, b, st, [], ⟨by omega, by omega, by omega, ⟨fun k h1 h2 => h.held.up k (by omega) (by omega), fun k h1 h2 => h.held.le k (by omega) (by omega), fun k h1 h2 => ?_, fun k h1 h2 => ?_, h.held.small, h.held.fin, .inl rfl⟩, fun k r h1 h2 hr => ?_, fun k r h1 h2 hr => ?_, fun j k h1 h2 h3 h4 => h.inj j k (by omega) (by omega) (by omega) (by omega), fun j hj => ?_, h.of⟩, v3, by rw [hnames]; exact v4, v5, v7, hon, hloose⟩
      · obtain ⟨r, r1, r2, r3⟩ := hw k h1 (by omega) (by omega)
        obtain ⟨_, _, _, r4⟩ := h.held.whole k (by omega) (by omega)
        exact ⟨r, r1, r2, r4⟩
      · obtain ⟨r, r1, r2, r3⟩ := hw k h1 (by omega) (by omega)
        exact ⟨r, r1, by rw [List.append_nil]; exact r2⟩
      · obtain ⟨r0, r1, r2, r3⟩ := hw k h1 (by omega) (by omega)
        rw [r1] at hr; cases hr; exact r3
      · obtain ⟨r0, r1, r2, r3⟩ := hw k h1 (by omega) (by omega)
        rw [r1] at hr; cases hr
        rw [r3, r2]
        have h5 := h.held.up k (by omega) (by omega)
        have h6 : max F (st k) ≤ st (k + 1) := by rw [h2]; have := h.held.rise (j := k) (k := b) (by omega) (by omega) (by omega); omega
        rw [seg_join (m := max F (st k)) (by omega) h6 (h.held.le _ (by omega) (by omega)), List.length_append]
        omega
      · rw [hpast j hj]
        exact ⟨a, b, Nat.le_refl _, v2, Nat.le_refl _, v4, v5, v6, v7⟩
    · obtain rfl : b = B := by omega
      have hB1 : b - 1 + 1 = b := by omega
      obtain ⟨r, r1, r2⟩ := h.held.last (b - 1) (by omega) hB1
      obtain ⟨r', q1, ⟨⟨m, q2, q3⟩, q5, q6, _⟩, q4⟩ := hfile (b - 1) r (by omega) (by omega) r1
      have hfl := h.firmL (b - 1) r (by omega) hB1 r1
      have hle1 := h.held.le (b - 1) (by omega) (by omega)
      have hle2 := h.held.le b (by omega) (Nat.le_refl _)
      have hup := h.held.up (b - 1) (by omega) (by omega)
      rw [hB1] at r2 hup
      obtain ⟨m1, t', p1, p2, p3, p4⟩ := frames_prefix (sl all (st (b - 1)) (st b)) (st (b - 1)) m t (sl_small h.held.small _ _) h.held.torn
      rw [sl_len hle2] at p1 p4
      have hr' : r'.bytes = seg all (st (b - 1)) (st (b - 1) + m1) ++ t' := by
        rw [q2, r2]
        unfold seg
        rw [p2, sl_take (by omega)]
      have hF : F ≤ st (b - 1) + m1 := by
        have := p4 (max F (st (b - 1)) - st (b - 1)) (by omega) (by
          rw [sl_take (by omega), show st (b - 1) + (max F (st (b - 1)) - st (b - 1)) = max F (st (b - 1)) by omega]
          unfold seg at hfl
          omega)
        omega
      have hst' : ∀ k, k < b → updN st b (st (b - 1) + m1) k = st k := fun k hk => updN_other _ _ (by omega)
      refine ⟨a, b, updN st b (st (b - 1) + m1), t', ⟨by omega, by omega, by omega, ⟨fun k h1 h2 => ?_, fun k h1 h2 => ?_, fun k h1 h2 => ?_, fun k h1 h2 => ?_, h.held.small, h.held.fin, p3⟩, fun k r h1 h2 hr => ?_, fun k r0 h1 h2 hr => ?_, fun j k h1 h2 h3 h4 => h.inj j k (by omega) (by omega) (by omega) (by omega), fun j hj => ?_, h.of⟩, v3, by rw [hnames]; exact v4, by rw [hst' a (by omega)]; exact v5, v7, hon, hloose⟩
      · rw [hst' k h2]
        by_cases e : k + 1 = b
        · obtain rfl : k = b - 1 := by omega
          rw [e, updN_same]; omega
        · rw [hst' (k + 1) (by omega)]; exact h.held.up k (by omega) (by omega)
      · by_cases e : k = b
        · rw [e, updN_same]; omega
        · rw [hst' k (by omega)]; exact h.held.le k (by omega) (by omega)
      · obtain ⟨r, r1, r2, r3⟩ := hw k h1 h2 (by omega)
        obtain ⟨_, _, _, r4⟩ := h.held.whole k (by omega) (by omega)
        rw [hst' k (by omega), hst' (k + 1) h2]
        exact ⟨r, r1, r2, r4⟩
      · obtain rfl : k = b - 1 := by omega
        rw [h2, hst' (b - 1) (by omega), updN_same]
        exact ⟨r', by rw [hfn (b - 1) h1 (by omega)]; exact q1, hr'⟩
      · obtain ⟨r0, r1, r2, r3⟩ := hw k h1 h2 (by omega)
        rw [r1] at hr; cases hr; exact r3
      · obtain rfl : k = b - 1 := by omega
        rw [hfn (b - 1) h1 (by omega), q1] at hr
        cases hr
        rw [hst' (b - 1) (by omega)]
        omega
      · rw [hpast j hj]
        exact ⟨a, b, Nat.le_refl _, v2, Nat.le_refl _, v4, by rw [hst' a (by omega)]; exact v5, by rw [updN_same]; exact hF, v7⟩
end Go.Proofs.YtccjkolcmdhliaaGreatDoor
/- Opening a log behind a crash (plain). -/
namespace Go.Proofs.YtccjkolcmdhliaaGreatDoor
open Go.RowKit Go.Maps Go.Sort
set_option linter.unusedVariables false

theorem sl_cut {all : List (List UInt8)} {s x e : Nat} (h : x ≤ e) : sl (all.take e) s x = sl all s x := by unfold sl; rw [List.take_take, Nat.min_eq_left h]
theorem seg_cut {all : List (List UInt8)} {s x e : Nat} (h : x ≤ e) : seg (all.take e) s x = seg all s x := by unfold seg; rw [sl_cut h]
/-- What isn't there is forgotten. -/
theorem J.cutAll {S : AS} {all : List (List UInt8)} {F o A B : Nat} {fn : Nat → Int} {st : Nat → Nat} {t : List UInt8} (h : J S all F o A B fn st t) : J S (all.take (st B)) F o A B fn st t := by
  have hB := h.held.le B h.ab (Nat.le_refl _)
  have hle : ∀ k, A ≤ k → k ≤ B → st k ≤ st B := fun k h1 h2 => h.held.rise h1 h2 (Nat.le_refl _)
  have hF := h.F_le
  have hlen : (all.take (st B)).length = st B := by rw [List.length_take]; omega
  refine ⟨h.lo, h.ab, h.hi, ⟨h.held.up, fun k h1 h2 => by rw [hlen]; exact hle k h1 h2, fun k h1 h2 => ?_, fun k h1 h2 => ?_, fun d hd => h.held.small d (List.mem_of_mem_take hd), by have := h.held.fin; omega, h.held.torn⟩, h.firmW, fun k r h1 h2 hr => ?_, h.inj, h.views, h.of⟩
  · rw [seg_cut (hle _ (by omega) (by omega))]; exact h.held.whole k h1 h2
  · rw [seg_cut (hle _ (by omega) (by omega))]; exact h.held.last k h1 h2
  · have := hle k h1 (by omega)
    rw [seg_cut (by omega)]; exact h.firmL k r h1 h2 hr
theorem recsOf_bd : ∀ (ds : List (List UInt8)) (i : Nat), ∀ r ∈ recsOf ds i, (i : Int) < r.seq ∧ r.seq ≤ ((i + ds.length : Nat) : Int)
  | [], i, r, hr => by cases hr
  | d :: ds, i, r, hr => by
    rw [recsOf] at hr
    rcases List.mem_cons.1 hr with rfl | hr
    · simp only [List.length_cons]; omega
    · have := recsOf_bd ds (i + 1) r hr
      simp only [List.length_cons]; omega
theorem behind_recs {all : List (List UInt8)} {s o e : Nat} (h1 : s ≤ o) (h2 : o ≤ e) (he : e ≤ all.length) : behindW (recsOf (sl all s e) s) (o : Int) = recsOf (sl all o e) o := by
  have hl := sl_len (s := s) (show o ≤ all.length by omega)
  rw [← sl_join h1 h2 he, recsOf_append, hl, show s + (o - s) = o by omega]
  unfold behindW
  rw [List.filter_append, List.filter_eq_nil_iff.2, List.filter_eq_self.2, List.nil_append]
  · intro r hr
    have := recsOf_bd _ _ r hr
    simp only [decide_eq_true_eq]; omega
  · intro r hr
    have := recsOf_bd _ _ r hr
    rw [hl] at this
    simp only [decide_eq_true_eq]; omega
theorem fits_recs {all : List (List UInt8)} {s o e : Nat} (h1 : s ≤ o) (h2 : o ≤ e) (he : e ≤ all.length) : fitsW (recsOf (sl all s e) s) (o : Int) = true := by
  have hl := sl_len (s := s) he
  by_cases hse : s = e
  · have : sl all s e = [] := List.eq_nil_of_length_eq_zero (by omega)
    rw [this]; rfl
  · unfold fitsW
    rw [List.head?_eq_getElem?, List.getLast?_eq_getElem?, recsOf_len, hl, recsOf_get _ _ 0 (by omega), recsOf_get _ _ (e - s - 1) (by omega)]
    simp only [Bool.and_eq_true, decide_eq_true_eq]
    omega
theorem J.cutTorn {S : AS} {all : List (List UInt8)} {F o A B : Nat} {fn : Nat → Int} {st : Nat → Nat} {t : List UInt8} {N : Nat} (h : J S all F o A B fn st t) (hi : Inv N S) (hAB : A < B) {r : FR} (hr : S.file (fn (B - 1)) = some r) :
    J (S.cutF (fn (B - 1)) r (seg all (st (B - 1)) (st B)).length) all F o A B fn st [] := by
  have hlo := h.lo
  have hfile : ∀ k, A ≤ k → k < B → (S.cutF (fn (B - 1)) r (seg all (st (B - 1)) (st B)).length).file (fn k) = if k = B - 1 then some { bytes := r.bytes.take (seg all (st (B - 1)) (st B)).length, firm := min r.firm (seg all (st (B - 1)) (st B)).length } else S.file (fn k) := fun k h1 h2 => by
    show upd S.file (fn (B - 1)) _ (fn k) = _
    by_cases e : k = B - 1
    · rw [e, upd_same, if_pos rfl]
    · rw [if_neg e, upd_other _ _ fun hh => e (h.inj k (B - 1) h1 h2 (by omega) (by omega) hh)]
  refine ⟨h.lo, h.ab, h.hi, ⟨h.held.up, h.held.le, fun k h1 h2 => ?_, fun k h1 h2 => ?_, h.held.small, h.held.fin, .inl rfl⟩, fun k q h1 h2 hq => ?_, fun k q h1 h2 hq => ?_, h.inj, h.views, h.of⟩
  · rw [hfile k h1 (by omega), if_neg (by omega)]; exact h.held.whole k h1 h2
  · obtain rfl : k = B - 1 := by omega
    obtain ⟨q, q1, q2⟩ := h.held.last (B - 1) h1 h2
    rw [hr] at q1
    cases q1
    rw [h2] at q2 ⊢
    refine ⟨_, by rw [hfile (B - 1) h1 (by omega), if_pos rfl], ?_⟩
    simp only
    rw [q2, List.take_left' rfl, List.append_nil]
  · rw [hfile k h1 (by omega), if_neg (by omega)] at hq; exact h.firmW k q h1 h2 hq
  · obtain rfl : k = B - 1 := by omega
    rw [hfile (B - 1) h1 (by omega), if_pos rfl] at hq
    cases hq
    simp only
    have h3 := h.firmL (B - 1) r h1 h2 hr
    have hF := h.F_le
    have hup := h.held.up (B - 1) h1 (by omega)
    rw [h2] at hup
    have h4 : seg all (st (B - 1)) (st B) = seg all (st (B - 1)) (max F (st (B - 1))) ++ seg all (max F (st (B - 1))) (st B) := seg_join (by omega) (by omega) (h.held.le B h.ab (Nat.le_refl _))
    have h5 : (seg all (st (B - 1)) (st B)).length = (seg all (st (B - 1)) (max F (st (B - 1)))).length + (seg all (max F (st (B - 1))) (st B)).length := by rw [h4, List.length_append]
    omega
theorem stepE_armed {S : AS} (h : S.stepE = 13) : S.armed = true := by
  unfold AS.stepE at h
  split at h
  · rename_i ha; exact ha
  · simp at h
theorem step_armed {S : AS} (h : S.step.armed = true) : S.armed = true := by
  unfold AS.step at h
  split at h
  · rename_i ha; exact ha
  · exact h
theorem mend2_cases {S : AS} {all : List (List UInt8)} {F o A B : Nat} {fn : Nat → Int} {st : Nat → Nat} {N : Nat} (h : J S all F o A B fn st []) (hi : Inv N S) (hon : S.on = true) (hAB : A < B) (hv : View S.names A B fn) (hso : st A ≤ o) :
    ((mend2 S (nm (B - 1))).2 = 0 ∧ J (mend2 S (nm (B - 1))).1 all F o A B fn st [] ∧ (mend2 S (nm (B - 1))).1.on = true ∧ View (mend2 S (nm (B - 1))).1.names A B fn ∧ (mend2 S (nm (B - 1))).1.loose = [] ∧ Inv N (mend2 S (nm (B - 1))).1 ∧ ∀ r, (mend2 S (nm (B - 1))).1.file (fn (B - 1)) = some r → r.firm = r.bytes.length) ∨
    ((mend2 S (nm (B - 1))).2 = 13 ∧ J (mend2 S (nm (B - 1))).1 all F o A B fn st [] ∧ S.armed = true) := by
  have hlo := h.lo
  have hhi := h.hi
  have hl := hv.at (k := B - 1) (by omega) (by omega)
  obtain ⟨r, hr⟩ := h.held.there (k := B - 1) (by omega) (by omega)
  obtain ⟨e1, e2, e3, e4, e5, e6⟩ := step_same S
  have hck : checkOf S.on [nm (B - 1)] = 0 := by unfold checkOf; rw [hon]; simp [nm_ok (show 1 ≤ B - 1 by omega) (by omega)]
  have hs : S.sync (nm (B - 1)) = if S.stepE = 0 then (S.step.synced (fn (B - 1)) r, 0) else (S.step, S.stepE) := by
    unfold AS.sync
    rw [if_pos hck, hl]
    simp only [hr]
  unfold mend2
  rcases stepE_01 S with he | he
  · rw [if_pos he] at hs
    have hinv : Inv N (S.sync (nm (B - 1))).1 := hi.doSync _
    rw [hs] at hinv ⊢
    simp only
    rw [if_neg (by simp)]
    obtain ⟨S1, hS1⟩ : ∃ S1, S.step.synced (fn (B - 1)) r = S1 := ⟨_, rfl⟩
    have hj : J S1 all F o A B fn st [] := by rw [← hS1]; exact (h.step hi).synced hi.step (by rw [e4]; exact hr)
    have hon1 : S1.on = true := by rw [← hS1]; show S.step.on = true; rw [step_on he]; exact hon
    have hv1 : View S1.names A B fn := by rw [← hS1]; show View S.step.names A B fn; rw [e1]; exact hv
    have hf1 : ∀ q, S1.file (fn (B - 1)) = some q → q.firm = q.bytes.length := fun q hq => by
      rw [← hS1] at hq
      have hq' : upd S.step.file (fn (B - 1)) (some { bytes := r.bytes, firm := r.bytes.length }) (fn (B - 1)) = some q := hq
      rw [upd_same] at hq'; cases hq'; rfl
    simp only at hinv
    rw [hS1] at hinv ⊢
    obtain ⟨g1, g2, g3, g4, g5, g6⟩ := step_same S1
    have hse : S1.settle = if S1.stepE = 0 then (S1.step.settled, 0) else (S1.step, 13) := by unfold AS.settle; rw [if_pos hon1]
    rw [hse]
    rcases stepE_01 S1 with he1 | he1
    · rw [if_pos he1]
      refine .inl ⟨rfl, (hj.step hinv).settled hinv.step (Nat.le_refl _) h.ab (by rw [g1]; exact hv1) hso (fun e => by omega), by show S1.step.on = true; rw [step_on he1]; exact hon1, by show View S1.step.names A B fn; rw [g1]; exact hv1, rfl, hinv.step.settled, fun q hq => ?_⟩
      have hq' : (if keeps S1.step.names (fn (B - 1)) = true then S1.step.file (fn (B - 1)) else none) = some q := hq
      split at hq'
      · rw [g4] at hq'; exact hf1 q hq'
      · cases hq'
    · rw [if_neg (by rw [he1]; decide)]
      refine .inr ⟨rfl, hj.step hinv, step_armed (S := S) ?_⟩
      have h1 := stepE_armed he1
      rw [← hS1] at h1
      exact h1
  · rw [if_neg (by rw [he]; decide)] at hs
    rw [hs]
    simp only
    rw [if_pos (by rw [he]; decide)]
    exact .inr ⟨he, h.step hi, stepE_armed he⟩
/-- What Open comes to behind a crash. -/
theorem J.open_cases {S : AS} {all : List (List UInt8)} {F o A B : Nat} {fn : Nat → Int} {st : Nat → Nat} {t : List UInt8} {N : Nat} (h : J S all F o A B fn st t) (hi : Inv N S) (hon : S.on = true) (hl : S.loose = []) (hv : View S.names A B fn) (hso : st A ≤ o) (hem : A = B → A = 1) :
    (∃ S' L', openW S o = .ok (S', L', recsOf (sl all o (st B)) o) ∧ H S' L' (all.take (st B)) (st B) o A B A fn st ∧ Inv N S') ∨ (∃ t', openW S o = .error 13 ∧ J (openS S o) all F o A B fn st t' ∧ S.armed = true) := by
  have hlo := h.lo
  have hhi := h.hi
  have hab := h.ab
  have hF := h.F_le
  have hof := h.of
  have hB := h.held.le B hab (Nat.le_refl _)
  have hlen : (all.take (st B)).length = st B := by rw [List.length_take]; omega
  have hkeys := hv.keys hi.names
  have hsegs : segsW (sortedKeys S.names) = (List.range' A (B - A)).map fun k : Nat => (k : Int) := by rw [hkeys]; exact segsW_range A (B - A) hlo (by omega)
  by_cases hAB : A = B
  · have hst : st B = o := by rw [← hAB] at hF ⊢; omega
    have hld : loadW S true ([], L0, false) (segsW (sortedKeys S.names)) = .ok ([], L0, false) := by rw [hsegs, show B - A = 0 by omega]; rfl
    have hsl : sl all o (st B) = [] := List.eq_nil_of_length_eq_zero (by rw [sl_len hB]; omega)
    left
    have hm : mendW S L0 false = (S, 0) := by unfold mendW; rw [if_pos (show L0.files.length = 0 from rfl)]
    refine ⟨S, { L0 with last := (o : Int), firm := (o : Int) }, ?_, ⟨?_, hon, rfl, by rw [hlen, hst], hlen.symm, by rw [hst], Nat.le_refl _, hab, hv, hso, hem, ?_, fun hh => by omega, fun _ hh => by omega, fun hh => by simp [L0] at hh, fun _ => hl⟩, hi⟩
    · unfold openW
      rw [hld]
      unfold openR
      simp only
      rw [show fitsW [] (o : Int) = true from rfl, if_pos rfl, hm, hsl]
      simp only
      rw [if_pos trivial]
      rfl
    · have h0 := h.cutAll
      refine ⟨h0.lo, h0.ab, h0.hi, ⟨h0.held.up, h0.held.le, h0.held.whole, fun k h1 h2 => by omega, h0.held.small, h0.held.fin, .inl rfl⟩, h0.firmW, fun k r h1 h2 => by omega, h0.inj, fun j hj => ?_, by omega⟩
      obtain ⟨a, b, v1, v2, v3, v4, v5, v6, v7⟩ := h0.views j hj
      have hbB : b = B := by omega
      exact ⟨a, b, v1, v2, v3, v4, v5, by rw [hbB]; exact Nat.le_refl _, v7⟩
    · rw [show B - A = 0 by omega]; rfl
  · have hAB' : A < B := by omega
    obtain ⟨r, r1, r2⟩ := h.held.last (B - 1) (by omega) (by omega)
    rw [show B - 1 + 1 = B by omega] at r2
    have hri := (hi.file _ _ r1).2.2
    obtain ⟨L, hL⟩ : ∃ L : LS, { L0 with files := (List.range' A (B - A)).map (segL st), size := ((seg all (st (B - 1)) (st B)).length : Nat) } = L := ⟨_, rfl⟩
    have hld : loadW S true ([], L0, false) (segsW (sortedKeys S.names)) = .ok (recsOf (sl all (st A) (st B)) (st A), L, decide (t ≠ [])) := by
      rw [hsegs, load_view hon (by omega) (B - A) A [] L0 true (by omega) hlo (by omega) (fun k h1 h2 => hv.at h1 h2) h.held (.inl rfl) (fun hh => by cases hh), ← hL]
      rfl
    have hfit := fits_recs (s := st A) (o := o) (e := st B) hso (by omega) hB
    have hbeh := behind_recs (s := st A) (o := o) (e := st B) hso (by omega) hB
    have hnum : L.number = ((B - 1 : Nat) : Int) := by
      rw [← hL]
      unfold LS.number
      simp only
      rw [show B - A = (B - A - 1) + 1 by omega, List.range'_concat, List.map_append, List.map_singleton, numOf_snoc]
      unfold segL
      simp only
      omega
    have hfl : L.files.length ≠ 0 := by rw [← hL]; simp; omega
    have hsz : L.size = ((seg all (st (B - 1)) (st B)).length : Nat) := by rw [← hL]
    have hop : openW S o = if (mendW S L (decide (t ≠ []))).2 = 0 then .ok ((mendW S L (decide (t ≠ []))).1, { L with last := if (recsOf (sl all (st A) (st B)) (st A)).length = 0 then (o : Int) else lastSeq (recsOf (sl all (st A) (st B)) (st A)), firm := if (recsOf (sl all (st A) (st B)) (st A)).length = 0 then (o : Int) else lastSeq (recsOf (sl all (st A) (st B)) (st A)) }, recsOf (sl all o (st B)) o) else .error (mendW S L (decide (t ≠ []))).2 := by
      unfold openW
      rw [hld]
      unfold openR
      simp only
      rw [hfit, if_pos rfl, hbeh]
    have hos : openS S o = (mendW S L (decide (t ≠ []))).1 := by
      unfold openS
      rw [hld]
      unfold openF
      simp only
      rw [hfit, if_pos rfl]
    have hlq : (if (recsOf (sl all (st A) (st B)) (st A)).length = 0 then (o : Int) else lastSeq (recsOf (sl all (st A) (st B)) (st A))) = (st B : Int) := by
      rw [recsOf_len, sl_len hB]
      have hr := h.held.rise (j := A) (k := B) (Nat.le_refl _) hab (Nat.le_refl _)
      by_cases e : st B - st A = 0
      · rw [if_pos e]; omega
      · rw [if_neg e]
        have := recs_last (rs := []) (show st A < st B by omega) hB
        rwa [List.nil_append] at this
    rw [hlq] at hop
    have fin : ∀ S1 : AS, mendW S L (decide (t ≠ [])) = mend2 S1 (nm (B - 1)) → J S1 all F o A B fn st [] → Inv N S1 → S1.on = true → View S1.names A B fn → (S1.armed = true → S.armed = true) → (∃ S' L', openW S o = .ok (S', L', recsOf (sl all o (st B)) o) ∧ H S' L' (all.take (st B)) (st B) o A B A fn st ∧ Inv N S') ∨ (∃ t', openW S o = .error 13 ∧ J (openS S o) all F o A B fn st t' ∧ S.armed = true) := fun S1 hm hj hi1 hon1 hv1 harm => by
      rw [hm] at hop hos
      rcases mend2_cases hj hi1 hon1 hAB' hv1 hso with ⟨m1, m2, m3, m4, m5, m6, m7⟩ | ⟨m1, m2, m3⟩
      · rw [if_pos m1] at hop
        left
        refine ⟨_, _, hop, ⟨?_, m3, ?_, by rw [hlen], hlen.symm, rfl, Nat.le_refl _, hab, m4, hso, hem, ?_, fun _ => ?_, fun _ _ q hq => m7 q hq, fun hh => ?_, fun _ => m5⟩, m6⟩
        · have := (m2.cutAll).firmed m6 m5 hlen.symm (Nat.le_refl _) hab m4 hso hem fun q _ hq => m7 q hq
          rwa [hlen] at this
        · rw [← hL]; rfl
        · rw [← hL]
        · rw [seg_cut (Nat.le_refl _)]; exact hsz
        · rw [← hL] at hh; simp [L0] at hh
      · rw [if_neg (by rw [m1]; decide), m1] at hop
        exact .inr ⟨[], hop, by rw [hos]; exact m2, harm m3⟩
    have hnm : nameW L.number = nm (B - 1) := by rw [hnum]; rfl
    by_cases ht : t = []
    · subst ht
      refine fin S ?_ h hi hon hv id
      unfold mendW
      rw [if_neg hfl, hnm, if_neg (by simp)]
    · have hck : checkOf S.on [nm (B - 1)] = 0 := by unfold checkOf; rw [hon]; simp [nm_ok (show 1 ≤ B - 1 by omega) (by omega)]
      have hcut : S.cut (nm (B - 1)) L.size = if S.stepE = 0 then (S.step.cutF (fn (B - 1)) r (seg all (st (B - 1)) (st B)).length, 0) else (S.step, S.stepE) := by
        unfold AS.cut
        rw [if_pos hck, hv.at (k := B - 1) (by omega) (by omega)]
        simp only [r1]
        rw [hsz, if_neg (by rw [r2, List.length_append]; omega), Int.toNat_natCast]
      have hmd : mendW S L (decide (t ≠ [])) = if (S.cut (nm (B - 1)) L.size).2 ≠ 0 then S.cut (nm (B - 1)) L.size else mend2 (S.cut (nm (B - 1)) L.size).1 (nm (B - 1)) := by
        unfold mendW
        rw [if_neg hfl, hnm, if_pos (by simp [ht])]
      obtain ⟨e1, e2, e3, e4, e5, e6⟩ := step_same S
      rcases stepE_01 S with he | he
      · rw [if_pos he] at hcut
        rw [hcut] at hmd
        simp only at hmd
        rw [if_neg (by simp)] at hmd
        have r1' : S.step.file (fn (B - 1)) = some r := by rw [e4]; exact r1
        refine fin _ hmd ((h.step hi).cutTorn hi.step hAB' r1') ?_ (by show S.step.on = true; rw [step_on he]; exact hon) (by show View S.step.names A B fn; rw [e1]; exact hv) (fun ha => step_armed (S := S) ha)
        exact hi.step.turn r1' (r' := { bytes := r.bytes.take (seg all (st (B - 1)) (st B)).length, firm := min r.firm (seg all (st (B - 1)) (st B)).length }) (by simp only [List.length_take]; omega) (by simp only [List.length_take]; omega)
      · rw [if_neg (by rw [he]; decide)] at hcut
        rw [hcut] at hmd
        simp only at hmd
        rw [if_pos (by rw [he]; decide)] at hmd
        rw [hmd] at hop hos
        simp only at hop hos
        rw [if_neg (by rw [he]; decide), he] at hop
        exact .inr ⟨t, hop, by rw [hos]; exact h.step hi, stepE_armed he⟩
/-- A new disk, and a log on it. -/
theorem H.new {room : Int} (o : Nat) (ho : o = 0) : H (AS.new room) L0 [] 0 0 1 1 1 (fun _ => 0) (fun _ => 0) := by
  have hv : View (AS.new room).names 1 1 (fun _ => 0) := ⟨Nat.le_refl _, by omega, fun s n => ⟨fun hh => (by cases hh), fun ⟨k, h1, h2, _⟩ => by omega⟩⟩
  refine ⟨⟨Nat.le_refl _, Nat.le_refl _, by omega, ⟨fun k h1 h2 => by omega, fun k h1 h2 => Nat.zero_le _, fun k h1 h2 => by omega, fun k h1 h2 => by omega, fun d hd => (by cases hd), by simp, .inl rfl⟩, fun k r h1 h2 => by omega, fun k r h1 h2 => by omega, fun j k h1 h2 => by omega, fun j hj => ?_, Nat.le_refl _⟩, rfl, rfl, rfl, rfl, rfl, Nat.le_refl _, Nat.le_refl _, hv, Nat.le_refl _, fun _ => rfl, rfl, fun hh => by omega, fun _ hh => by omega, fun hh => by simp [L0] at hh, fun _ => rfl⟩
  have hj0 : j = 0 := by have : (AS.new room).loose.length = 0 := rfl
                         omega
  rw [hj0, past_zero]
  exact ⟨1, 1, Nat.le_refl _, Nat.le_refl _, Nat.le_refl _, hv, Nat.le_refl _, Nat.le_refl _, fun _ => rfl⟩
end Go.Proofs.YtccjkolcmdhliaaGreatDoor
/- A log on a disk whose power stays, with room enough (plain). -/
namespace Go.Proofs.YtccjkolcmdhliaaGreatDoor
open Go.RowKit Go.Maps Go.Sort
set_option linter.unusedVariables false

/-- The power is on and stays. -/
structure Quiet (S : AS) : Prop where
  on : S.on = true
  armed : S.armed = false
theorem Quiet.stepE {S : AS} (h : Quiet S) : S.stepE = 0 := by unfold AS.stepE; rw [h.armed]; rfl
theorem Quiet.step {S : AS} (h : Quiet S) : Quiet S.step ∧ S.step.room = S.room := by
  unfold AS.step
  rw [if_neg (by rw [h.armed]; simp)]
  exact ⟨⟨h.on, h.armed⟩, rfl⟩
theorem check_13 {S : AS} (h : Quiet S) (l : List UInt8) : checkOf S.on [l] ≠ 13 := by
  unfold checkOf; rw [h.on]
  simp only [if_true]
  split <;> decide
theorem Quiet.sync {S : AS} (h : Quiet S) (l : List UInt8) : Quiet (S.sync l).1 ∧ (S.sync l).1.room = S.room ∧ (S.sync l).2 ≠ 13 := by
  obtain ⟨s1, s2⟩ := h.step
  unfold AS.sync
  split
  · cases hl : look S.names l with
    | none => exact ⟨h, rfl, by simp⟩
    | some n =>
      cases hr : S.file n with
      | none => simp only [hr]; exact ⟨h, trivial, by simp⟩
      | some r =>
        simp only [hr]
        rw [if_pos h.stepE]
        exact ⟨⟨s1.on, s1.armed⟩, s2, by simp⟩
  · exact ⟨h, rfl, check_13 h l⟩
theorem Quiet.settle {S : AS} (h : Quiet S) : Quiet S.settle.1 ∧ S.settle.1.room = S.room ∧ S.settle.2 ≠ 13 := by
  obtain ⟨s1, s2⟩ := h.step
  unfold AS.settle
  rw [if_pos h.on, if_pos h.stepE]
  exact ⟨⟨s1.on, s1.armed⟩, s2, by simp⟩
theorem Quiet.write {S : AS} (h : Quiet S) (l d : List UInt8) : Quiet (S.write l d).1 ∧ (S.write l d).1.room = S.room ∧ (S.write l d).2 ≠ 13 := by
  unfold AS.write
  split
  · split
    · exact ⟨h, rfl, by simp⟩
    · cases hl : look S.names l with
      | none =>
        simp only
        split
        · exact ⟨h, rfl, by simp⟩
        · have hq : Quiet ((S.made l).written (S.last + 1) { bytes := [], firm := 0 } d) := ⟨h.on, h.armed⟩
          obtain ⟨s1, s2⟩ := hq.step
          exact ⟨s1, s2, by rw [h.stepE]; simp⟩
      | some n =>
        cases hr : S.file n with
        | none => simp only [hr]; exact ⟨h, trivial, by simp⟩
        | some r =>
          simp only [hr]
          have hq : Quiet (S.written n r d) := ⟨h.on, h.armed⟩
          obtain ⟨s1, s2⟩ := hq.step
          exact ⟨s1, s2, by rw [h.stepE]; simp⟩
  · exact ⟨h, rfl, check_13 h l⟩
theorem Quiet.doSyncB {S : AS} (h : Quiet S) (L : LS) : Quiet (syncB S L).1 ∧ (syncB S L).1.room = S.room ∧ (syncB S L).2.2 ≠ 13 := by
  obtain ⟨s1, s2, s3⟩ := h.sync (nameW L.number)
  unfold syncB
  split
  · split
    · exact ⟨s1, s2, by simp⟩
    · exact ⟨s1, s2, s3⟩
  · exact ⟨h, rfl, by simp⟩
theorem Quiet.doPlace {S : AS} (h : Quiet S) (L : LS) : Quiet (placeL S L).1 ∧ (placeL S L).1.room = S.room ∧ (placeL S L).2.2.2 ≠ 13 := by
  obtain ⟨s1, s2, s3⟩ := h.doSyncB L
  unfold placeL
  split
  · exact ⟨h, rfl, by simp⟩
  · split
    · exact ⟨s1, s2, by simp⟩
    · exact ⟨s1, s2, s3⟩
theorem Quiet.append {S : AS} {L : LS} (h : Quiet S) (h0 : L.fault = 0) (d : List UInt8) : Quiet (appendL S L d).1 ∧ (appendL S L d).1.room = S.room ∧ (appendL S L d).2.2.2 ≠ 13 := by
  obtain ⟨p1, p2, p3⟩ := h.doPlace L
  unfold appendL
  rw [if_neg (by rw [h0]; simp)]
  split
  · exact ⟨h, rfl, by simp⟩
  · split
    · refine ⟨h, rfl, ?_⟩
      rcases recB_err (L.last + 1) d with e | e <;> simp [e]
    · split
      · exact ⟨p1, p2, p3⟩
      · obtain ⟨w1, w2, w3⟩ := p1.write (nameW (placeL S L).2.2.1) (recB (L.last + 1) d).1
        generalize hW : writeL (placeL S L).1 (placeL S L).2.1 (placeL S L).2.2.1 (recB (L.last + 1) d).1 = W
        have : W.1 = ((placeL S L).1.write (nameW (placeL S L).2.2.1) (recB (L.last + 1) d).1).1 ∧ W.2.2 ≠ 13 := by
          rw [← hW]; unfold writeL; split
          · exact ⟨rfl, by simp⟩
          · exact ⟨rfl, w3⟩
        split
        · exact ⟨by rw [this.1]; exact w1, by rw [this.1]; exact w2.trans p2, this.2⟩
        · exact ⟨by rw [this.1]; exact w1, by rw [this.1]; exact w2.trans p2, by simp⟩
theorem Quiet.doSyncL {S : AS} {L : LS} (h : Quiet S) (h0 : L.fault = 0) : Quiet (syncL S L).1 ∧ (syncL S L).1.room = S.room ∧ (syncL S L).2.2 ≠ 13 := by
  obtain ⟨p1, p2, p3⟩ := h.doSyncB L
  obtain ⟨q1, q2, q3⟩ := p1.settle
  unfold syncL
  rw [if_neg (by rw [h0]; simp)]
  split
  · exact ⟨p1, p2, p3⟩
  · have hs : (settleL (syncB S L).1 (syncB S L).2.1).1 = (syncB S L).1.settle.1 ∧ (settleL (syncB S L).1 (syncB S L).2.1).2.2 ≠ 13 := by
      unfold settleL; split
      · exact ⟨rfl, by simp⟩
      · exact ⟨rfl, q3⟩
    split
    · split
      · exact ⟨by rw [hs.1]; exact q1, by rw [hs.1]; exact q2.trans p2, hs.2⟩
      · exact ⟨by show Quiet (settleL _ _).1; rw [hs.1]; exact q1, by show (settleL _ _).1.room = _; rw [hs.1]; exact q2.trans p2, by simp⟩
    · exact ⟨p1, p2, by simp⟩

/-! ### how much is used -/
theorem strOf_string (x : List UInt8) : strOf (.string x) = x := rfl
def lenAt (f : Int → Option FR) (D : DU) (s : List UInt8) : Int := match look D s with
  | some n => (match f n with | some r => (r.bytes.length : Int) | none => 0)
  | none => 0
theorem used_keys {f : Int → Option FR} {D : DU} (hg : Good f D) : usedOf f D = ((strKeys D).map (lenAt f D)).sum := by
  obtain ⟨es, rfl, hp, hk⟩ := hg.canon
  unfold usedOf strKeys
  simp only [List.map_map]
  congr 1
  refine List.map_congr_left fun p hp' => ?_
  obtain ⟨v, hv⟩ := hk p hp'
  obtain ⟨x, _, hx, _⟩ := Maps.keyOf_str Tryz.underlying9 hv
  have hh : has (.map es : DU) (.string x) = true := by
    rw [has_eq, List.any_eq_true]
    exact ⟨p, hp', by rw [hx]; exact WideAt.sameKey_self (isKey x)⟩
  obtain ⟨n, hn⟩ := hg.ints x hh
  obtain ⟨es', p', e1, e2, e3, e4, e5⟩ := find_entry (hg.canon.canon law9.one) hn
  cases e1
  obtain rfl : p = p' := e5 p hp' hx
  have hlk : look (.map es) x = some n := by unfold look; rw [hn .nil]
  unfold flen lenAt
  rw [e4]
  simp only [Function.comp, hx, strOf_string, hlk]
  cases f n <;> rfl
theorem perm_sum {α : Type} (f : α → Int) {l l' : List α} (h : l.Perm l') : (l.map f).sum = (l'.map f).sum := by
  induction h with
  | nil => rfl
  | cons x _ ih => simp [ih]
  | swap x y l => simp; omega
  | trans _ _ ih1 ih2 => exact ih1.trans ih2
theorem H.used {S : AS} {L : LS} {all : List (List UInt8)} {F o A B c : Nat} {fn : Nat → Int} {st : Nat → Nat} {N : Nat} (h : H S L all F o A B c fn st) (hi : Inv N S) : usedOf S.file S.names = ((seg all (st c) (st B)).length : Nat) ∧ Maps.size S.names = B - c := by
  have hcb := h.cb
  have hac := h.ac
  have hks := h.view.keys hi.names
  have hp : (strKeys S.names).Perm ((List.range' c (B - c)).map nm) := by
    rw [← hks]; exact (List.mergeSort_perm _ _).symm
  constructor
  · rw [used_keys hi.names, perm_sum _ hp, List.map_map]
    have main : ∀ n a, c ≤ a → a + n = B → ((List.range' a n).map (lenAt S.file S.names ∘ nm)).sum = ((seg all (st a) (st B)).length : Nat) := fun n => by
      induction n with
      | zero => intro a h1 h2; obtain rfl : a = B := by omega
                rw [seg_nil]; rfl
      | succ n ih =>
        intro a h1 h2
        have hat : lenAt S.file S.names (nm a) = ((seg all (st a) (st (a + 1))).length : Nat) := by
          unfold lenAt
          rw [h.view.at h1 (by omega)]
          simp only
          by_cases e : a + 1 < B
          · obtain ⟨r, r1, r2, _⟩ := h.j.held.whole a (by omega) e
            rw [r1]; simp only; rw [r2]
          · obtain ⟨r, r1, r2⟩ := h.j.held.last a (by omega) (by omega)
            rw [r1]; simp only; rw [r2, List.append_nil]
        rw [List.range'_succ, List.map_cons, List.sum_cons, ih (a + 1) (by omega) (by omega)]
        show lenAt S.file S.names (nm a) + _ = _
        rw [hat, seg_join (s := st a) (m := st (a + 1)) (e := st B) (h.j.held.up a (by omega) (by omega)) (h.j.held.rise (by omega) (by omega) (Nat.le_refl _)) (h.j.held.le B h.j.ab (Nat.le_refl _)), List.length_append]
        push_cast
        rfl
    exact main (B - c) c (Nat.le_refl _) (by omega)
  · have hl := hp.length_eq
    obtain ⟨es, e, _, _⟩ := hi.names.canon
    rw [e] at hl ⊢
    simpa [strKeys, Maps.size] using hl
theorem frames_len : ∀ (ds : List (List UInt8)) (i : Nat), (frames ds i).length = (ds.map fun d => d.length + 20).sum
  | [], _ => rfl
  | d :: ds, i => by
    rw [frames, List.length_append, frameR_len, body_len, frames_len ds, List.map_cons, List.sum_cons]
    omega
theorem seg_le {all : List (List UInt8)} {s e : Nat} : (seg all s e).length ≤ (all.map fun d => d.length + 20).sum := by
  unfold seg sl
  rw [frames_len]
  have h1 : ∀ (l : List (List UInt8)) (n : Nat), ((l.take n).map fun d => d.length + 20).sum ≤ (l.map fun d => d.length + 20).sum := fun l n => by
    conv => rhs; rw [← List.take_append_drop n l]
    rw [List.map_append, List.sum_append]; omega
  have h2 : ∀ (l : List (List UInt8)) (n : Nat), ((l.drop n).map fun d => d.length + 20).sum ≤ (l.map fun d => d.length + 20).sum := fun l n => by
    conv => rhs; rw [← List.take_append_drop n l]
    rw [List.map_append, List.sum_append]; omega
  exact Nat.le_trans (h2 _ _) (h1 _ _)
theorem write_12 {N : Nat} {S : AS} (hi : Inv N S) {l d : List UInt8} (hc : checkOf S.on [l] = 0) (h : (S.write l d).2 = 12) : S.room < usedOf S.file S.names + d.length ∨ 64 ≤ Maps.size S.names := by
  unfold AS.write at h
  rw [if_pos hc] at h
  split at h
  · rename_i h1; exact .inl h1
  · cases hl : look S.names l with
    | none =>
      rw [hl] at h
      simp only at h
      split at h
      · rename_i h2; exact .inr h2
      · rcases stepE_01 S with e | e <;> rw [e] at h <;> simp at h
    | some n =>
      rw [hl] at h
      obtain ⟨r, hr⟩ := hi.names.ref l n hl
      simp only [hr] at h
      rcases stepE_01 S with e | e <;> rw [e] at h <;> simp at h
/-- Where there is room, Append isn't refused for it. -/
theorem H.room {S : AS} {L : LS} {all : List (List UInt8)} {F o A B c : Nat} {fn : Nat → Int} {st : Nat → Nat} {N : Nat} (h : H S L all F o A B c fn st) (hi : Inv N S) (hq : Quiet S) (hB : B < 64) {d : List UInt8} (hd : d.length ≤ 65524) (hr : (((all.map fun d => d.length + 20).sum : Nat) : Int) + d.length + 20 ≤ S.room) : (appendL S L d).2.2.2 ≠ 12 := by
  have hlo := h.j.lo
  have hab := h.j.ab
  have hac := h.ac
  have hrec : (recB (L.last + 1) d).2 = 0 ∧ (recB (L.last + 1) d).1.length = d.length + 20 := by
    unfold recB; rw [if_pos hd]
    exact ⟨rfl, by simp only; rw [frameR_len, body_len]; omega⟩
  have key : ∀ S1 L1 n, H S1 L1 all F o A B c fn st → Inv N S1 → S1.room = S.room → (n = ((B - 1 : Nat) : Int) ∧ 1 < B ∨ n = (B : Int)) → (writeL S1 L1 n (recB (L.last + 1) d).1).2.2 ≠ 12 := fun S1 L1 n h1 hi1 hr1 hn he => by
    have hw : (S1.write (nameW n) (recB (L.last + 1) d).1).2 = 12 := by
      unfold writeL at he
      split at he
      · simp at he
      · exact he
    have hck : checkOf S1.on [nameW n] = 0 := by
      rcases hn with ⟨rfl, h2⟩ | rfl
      · exact h1.check (k := B - 1) (by omega) (by omega)
      · exact h1.check (k := B) (by omega) (by omega)
    obtain ⟨u1, u2⟩ := h1.used hi1
    rcases write_12 hi1 hck hw with e | e
    · rw [hrec.2, u1, hr1] at e
      have := @seg_le all (st c) (st B)
      omega
    · omega
  have hinv : Inv N (syncB S L).1 := by
    unfold syncB
    split
    · split
      · exact hi.doSync _
      · exact hi.doSync _
    · exact hi
  have hsq := hq.doSyncB L
  unfold appendL
  rw [if_neg (by rw [h.fault]; simp), if_neg (by rw [h.last]; have := h.j.held.fin; omega), if_neg (by rw [hrec.1]; simp)]
  by_cases hgo : 0 < L.number ∧ L.size < 4096
  · have hp : placeL S L = (S, L, L.number, 0) := by unfold placeL; rw [if_pos hgo]
    rw [hp]
    simp only
    rw [if_neg (by simp)]
    have hk := key S L L.number h hi rfl (.inl ⟨h.number, by have := h.number; omega⟩)
    split
    · exact hk
    · simp
  · rcases h.doSyncB hi with ⟨s1, s2, s3, s4, s5⟩ | ⟨s1, s2, s3⟩
    · have hp : placeL S L = ((syncB S L).1, (syncB S L).2.1, L.number + 1, 0) := by unfold placeL; rw [if_neg hgo, if_pos s1]
      have hnum : L.number + 1 = (B : Int) := by rw [h.number]; omega
      rw [hp]
      simp only
      rw [if_neg (by simp)]
      have hk := key _ _ (L.number + 1) s2 hinv hsq.2.1 (.inr hnum)
      split
      · exact hk
      · simp
    · exact absurd s1 hsq.2.2
end Go.Proofs.YtccjkolcmdhliaaGreatDoor
/- Many records wait for one sync: WalGroups, walked. -/
namespace Go.Proofs.YtccjkolcmdhliaaGreatDoor
open Go.RowKit Go.Maps Go.Sort
set_option linter.unusedVariables false

def boolE (b : Bool) (cs : List Value) : Prop := cs = [.bool b]
theorem info9 : (Tryz.prog.info? 9).map (fun i => (i.zero, i.size, i.bytes)) = some (some (.string ⟨#[]⟩), 1, 16) := by kernel_rfl
theorem Grow.nilv {b : Nat} {w : World} {E : (Nat → Prop) → World → List UInt8 → List Value → Prop} : Grow b 9 1 E w (.slice none 0 0) ([] : List (List UInt8)) :=
  ⟨fun _ => False, [], ⟨rfl, .inl ⟨rfl, rfl⟩⟩, fun j h => absurd h (by simp), fun k h => h.elim⟩
theorem Grow.keepS {b : Nat} {w w' : World} {v : Value} {l : List (List UInt8)} (h : Grow b 9 1 strG w v l) {F : Nat → Prop} (hf : Fr F w w') (hF : ∀ k, v.ownBlock = some k → ¬ F k) : Grow b 9 1 strG w' v l := by
  obtain ⟨K, xs, ho, hel, hK⟩ := h
  exact ⟨K, xs, own_of ho fun k hk => hf.block k (ho.lt k hk).2 (hF k hk), fun j hj => hel j hj, fun k hk => ⟨(hK k hk).1, Nat.lt_of_lt_of_le (hK k hk).2.1 hf.size, (hK k hk).2.2⟩⟩
theorem Grow.moreOwn {b : Nat} {w w' : World} {v : Value} {l : List (List UInt8)} {x : List UInt8} {A : Option Addr} {c : Nat} (h : Grow b 9 1 strG w v l) (hb : b ≤ w.heap.size) (hlen : (l.length + 1) * 16 ≤ 140737488355328) (hmax : l.length + 1 ≤ maxLen)
    (hap : ∀ ty, (Builtin.append_ #[46, 46] ty #[v, .slice (some ⟨w.heap.size, 0, none⟩) 1 1]).run Tryz.prog (w.alloc (.cells #[sv x] 9)) = .ok (.slice A (l.length + 1) c) w') :
    ∀ k, (Value.slice A (l.length + 1) c).ownBlock = some k → v.ownBlock = some k ∨ w.heap.size ≤ k := by
  obtain ⟨K, xs, ho, hel, hK⟩ := h
  obtain ⟨i0, hi, hz0, hz1, hz2⟩ := info_parts info9
  have hfa : Fr No w (w.alloc (.cells [sv x].toArray 9)) := (Fr.refl No w).alloc _
  have ho' : (w.alloc (.cells [sv x].toArray 9)).ownsRow b 9 1 v l.length xs := own_of ho fun k hk => hfa.block k (ho.lt k hk).2 id
  have hnews : ∀ j u, [sv x][j]? = some u → (w.alloc (.cells [sv x].toArray 9)).cell? ((⟨w.heap.size, 0, none⟩ : Addr).add j) = some u := by
    intro j u hu
    rw [Addr.add_lit, Nat.zero_add]
    exact ((Blk.new w 9 [sv x].toArray).cell j).trans (by simpa using hu)
  obtain ⟨v', w'', hr, how, hgr, hnil, hat⟩ := run_append_own_at (P := Tryz.prog) (w.alloc (.cells [sv x].toArray 9)) b 46 0 9 i0 (.string ⟨#[]⟩) 1 16 Tryz.underlying46 hi hz0 hz1 hz2 rfl (by omega) v l.length xs ho' ⟨w.heap.size, 0, none⟩ 1 1 [sv x] rfl hnews (by simp [Value.oneCell', sv]) hmax hlen (by simp; omega)
  have e := (hap 0).symm.trans hr
  injection e with e1 e2
  intro k hk
  rw [e1] at hk
  rcases hat with e3 | e3
  · exact .inl (e3 ▸ hk)
  · rw [hk] at e3
    have := Option.some.inj e3
    right
    rw [this]; simp
theorem Grow.strAt {b : Nat} {w : World} {A : Option Addr} {n c : Nat} {l : List (List UInt8)} (h : Grow b 9 1 strG w (.slice A n c) l) (j : Nat) (hj : j < l.length) :
    ∃ g, A = some ⟨g, 0, none⟩ ∧ n = l.length ∧ g < w.heap.size ∧ ∀ w' : World, w'.heap[g]? = w.heap[g]? → w'.cell? ⟨g, j, none⟩ = some (sv l[j]) := by
  obtain ⟨K, xs, ho, hel, hK⟩ := h
  rcases ho.2 with ⟨e1, h0⟩ | ⟨g, cap, cur, e1, hg, hh, hn, hcm, hcs, htk⟩
  · omega
  · injection e1 with e1 e3 e2
    subst e1; subst e2
    refine ⟨g, rfl, e3, (World.ownsRow.lt ho g rfl).2, fun w' hw => ?_⟩
    obtain ⟨cs, h1, h2, h3⟩ := hel j hj
    rw [cell_of_row w' g _ cur 9 (0, 0) (hw.trans hh)]
    have h4 := h2 0 (by omega)
    rw [← htk, List.getElem?_take, if_pos (by omega)] at h4
    rw [(show cs = [sv l[j]] from h3.1)] at h4
    simpa using h4
theorem new_open (room : Int) : openW (AS.new room) 0 = .ok (AS.new room, L0, []) := by
  unfold openW
  have h : sortedKeys (AS.new room).names = [] := by
    unfold sortedKeys
    rw [show strKeys (AS.new room).names = [] from rfl]
    simp
  rw [h]
  have hm : mendW (AS.new room) L0 false = (AS.new room, 0) := by unfold mendW; rw [if_pos (show L0.files.length = 0 from rfl)]
  show openR (AS.new room) 0 (.ok ([], L0, false)) = _
  unfold openR
  simp only
  rw [show fitsW [] (0 : Int) = true from rfl, if_pos rfl, hm]
  rfl
def weigh (ds : List (List UInt8)) : Nat := (ds.map fun d => d.length + 20).sum
theorem weigh_snoc (ds : List (List UInt8)) (d : List UInt8) : weigh (ds ++ [d]) = weigh ds + d.length + 20 := by unfold weigh; simp; omega
theorem weigh_take (ds : List (List UInt8)) (i : Nat) (h : i < ds.length) : weigh (ds.take (i + 1)) = weigh (ds.take i) + ds[i].length + 20 := by
  rw [List.take_succ_eq_append_getElem h, weigh_snoc]
theorem weigh_le : ∀ (ds : List (List UInt8)) (n : Nat), weigh (ds.take n) ≤ (ds.map List.length).sum + n * 20
  | [], n => by simp [weigh]
  | d :: ds, 0 => by simp [weigh]
  | d :: ds, n + 1 => by
    have := weigh_le ds n
    unfold weigh at this ⊢
    rw [List.take_succ_cons, List.map_cons, List.sum_cons, List.map_cons, List.sum_cons]
    omega
/-- The first loop, in a round. -/
structure Grp (w0 w1 wr : World) (X : Nat → Prop) (d g : Nat) (ds : List (List UInt8)) (i : Nat) (all : List (List UInt8)) (F A B : Nat) (fn : Nat → Int) (st : Nat → Nat) (S : AS) (L : LS) (X1 : Nat → Prop) (av : Value) : Prop where
  lg : Lg wr X1 d g (2 * i) S L
  sub : ∀ k, X k → X1 k
  own : ∀ k, av.ownBlock = some k → X1 k ∧ w0.heap.size ≤ k
  row : Grow w0.heap.size 9 1 strG wr av all
  h : H S L all F 0 A B 1 fn st
  q : Quiet S
  room : S.room = 4194304
  B : B ≤ i + 1
  cnt : all.length ≤ i
  sum : weigh all ≤ weigh (ds.take i)
  fr : Fr (fun k => ¬ X k) w1 wr
theorem grp_append {w0 w1 wr : World} {X : Nat → Prop} {d g : Nat} {ds : List (List UInt8)} {i : Nat} {all : List (List UInt8)} {F A B : Nat} {fn : Nat → Int} {st : Nat → Nat} {S : AS} {L : LS} {X1 : Nat → Prop} {av : Value}
    (h : Grp w0 w1 wr X d g ds i all F A B fn st S L X1 av) (hi : i < ds.length) (h60 : i < 60) (hsum : weigh (ds.take 60) ≤ 1100000) :
    ((appendL S L ds[i]).2.2.1 = ((all.length + 1 : Nat) : Int) ∧ (appendL S L ds[i]).2.2.2 = 0 ∧ ds[i].length ≤ 65524 ∧ Quiet (appendL S L ds[i]).1 ∧ (appendL S L ds[i]).1.room = 4194304 ∧ ∃ B' fn' st', H (appendL S L ds[i]).1 (appendL S L ds[i]).2.1 (all ++ [ds[i]]) F 0 A B' 1 fn' st' ∧ B' ≤ i + 2) ∨
    ((appendL S L ds[i]).2.2.1 = 0 ∧ (appendL S L ds[i]).2.2.2 = 23 ∧ Quiet (appendL S L ds[i]).1 ∧ (appendL S L ds[i]).1.room = 4194304 ∧ H (appendL S L ds[i]).1 (appendL S L ds[i]).2.1 all F 0 A B 1 fn st) := by
  have hB := h.B
  have hcnt := h.cnt
  have hinv := h.lg.dk.inv
  obtain ⟨q1, q2, q3⟩ := h.q.append h.h.fault ds[i]
  have hw : ∀ n m, n ≤ m → weigh (ds.take n) ≤ weigh (ds.take m) := fun n m hnm => by
    have e : ds.take m = ds.take n ++ (ds.take m).drop n := by
      have := List.take_append_drop n (ds.take m)
      rw [List.take_take, Nat.min_eq_left hnm] at this
      exact this.symm
    rw [e]; unfold weigh; rw [List.map_append, List.sum_append]; omega
  rcases h.h.append_cases hinv (by omega) (by omega) ds[i] with ⟨a1, a2, a3, B', fn', st', a4, a5⟩ | ⟨a1, ⟨a2, a3⟩ | ⟨a2, a3⟩, a4⟩ | ⟨a1, a2, _⟩
  · exact .inl ⟨a1, a2, a3, q1, q2.trans h.room, B', fn', st', a4, by omega⟩
  · refine absurd a2 (h.h.room hinv h.q (by omega) a3 ?_)
    have h1 := h.sum
    have h2 := weigh_take ds i hi
    have h3 := hw (i + 1) 60 (by omega)
    rw [h.room]
    show ((weigh all : Nat) : Int) + _ + 20 ≤ _
    omega
  · exact .inr ⟨a1, a2, q1, q2.trans h.room, a4⟩
  · exact absurd a2 q3
set_option maxRecDepth 100000 in
set_option maxHeartbeats 8000000 in
theorem walGroups_any {w : World} {V V2 : Value} {ds : List (List UInt8)} {bs : List Bool} (hv : Vr w) (hV : RowE (fun k => k < w.heap.size) w 1 strE V ds) (hV2 : RowE (fun k => k < w.heap.size) w 1 boolE V2 bs) (hsum : (ds.map List.length).sum ≤ 1048576) (hlen : ∀ d ∈ ds, d.length ≤ 1048576) :
    Calls Tryz.prog 9 #[V, V2] w fun e w' => e = .returned (.bool true) ∧ Below w.heap.size w w' := by
  have hws : weigh (ds.take 60) ≤ 1100000 := by have := weigh_le ds 60; omega
  obtain ⟨A0, c0, hVe, hmax, hcell⟩ := hV
  obtain ⟨A2, c2, hV2e, hmax2, hcell2⟩ := hV2
  subst hVe hV2e
  obtain ⟨X, hX⟩ : ∃ X : Nat → Prop, (fun k => k < w.heap.size) = X := ⟨_, rfl⟩
  have HX : Hid (∀ k, X k ↔ k < w.heap.size) := Lib.hid fun k => by rw [← hX]
  have HLO : Hid (∀ k, k < 4 → X k) := Lib.hid fun k hk => (HX.out k).2 (by have := hv.lt; omega)
  have HV := Lib.hid hv
  have HC := Lib.hid hcell
  have HC2 := Lib.hid hcell2
  have HWS := Lib.hid hws
  have HLEN := Lib.hid hlen
  obtain ⟨n, hn⟩ : ∃ n, ds.length = n := ⟨_, rfl⟩
  obtain ⟨m, hm⟩ : ∃ m, bs.length = m := ⟨_, rfl⟩
  have HN := Lib.hid hn
  have HM := Lib.hid hm
  rw [hn] at hmax ⊢
  rw [hm] at hmax2 ⊢
  clear hX hv hcell hcell2 hws hlen hsum hn hm
  go_enter Tryz.func9, Tryz.ntmps9
  go_wp2_with fail
  refine (awake_any w HV.out).mono ?_
  rintro e wa ⟨rfl, hva, hba⟩
  have FA : Hid (Fr (fun k => ¬ X k) w wa) := Lib.hid (((Fr.of_below hba).any))
  have HVA := Lib.hid hva
  have HSZ := Lib.hid hba.size
  clear hva hba
  go_wp2_with fail
  refine (x_new 4194304 wa X fun k hk => Nat.lt_of_lt_of_le ((HX.out k).1 hk) HSZ.out).mono ?_
  rintro e wb ⟨d, rfl, h1, f1⟩
  obtain ⟨S0, hS0⟩ : ∃ S0, AS.new 4194304 = S0 := ⟨_, rfl⟩
  have hop : openW S0 0 = .ok (S0, L0, []) := by rw [← hS0]; exact new_open _
  have hH : H S0 L0 [] 0 0 1 1 1 (fun _ => 0) (fun _ => 0) := by rw [← hS0]; exact H.new 0 rfl
  have hq : Quiet S0 := by rw [← hS0]; exact ⟨rfl, rfl⟩
  have hroom : S0.room = 4194304 := by rw [← hS0]; rfl
  have h1' : Dk wb X d 0 S0 := by rw [← hS0]; exact h1
  have H1 := Lib.hid h1'
  have HV1 := Lib.hid (HVA.out.keep f1)
  have F1 : Hid (Fr (fun k => ¬ X k) w wb) := Lib.hid (FA.out.thenX f1.any)
  have HO1 := Lib.hid (open_on 0 H1.out HV1.out HLO.out (by omega) hq.on (by omega) (by omega))
  have HOP := Lib.hid hop
  have HH := Lib.hid hH
  have HQ := Lib.hid hq
  have HR := Lib.hid hroom
  unfold dkp at HO1
  clear h1 h1' f1 hS0 hop hH hq hroom HVA FA
  go_wp2_with fail
  refine HO1.out.mono ?_
  rintro e w1 ⟨ho, -, hv2, hf2⟩
  obtain ⟨g, A, c, X1, rfl, hx1, hl2, hg2, hown, -⟩ := ho _ HOP.out
  have HL2 := Lib.hid (show Lg w1 X d g 0 S0 L0 from hl2.less hx1 HLO.out)
  have F2 := Lib.hid (F1.out.thenX hf2)
  clear ho hv2 hf2 hx1 hl2 hg2 hown HO1 F1 H1 HV1 HOP
  unfold gpt
  have hstart : Grp w w1 w1 X d g ds 0 [] 0 1 1 (fun _ => 0) (fun _ => 0) S0 L0 X (.slice none 0 0) :=
    ⟨HL2.out, fun k hk => hk, fun k hk => by simp [Value.ownBlock] at hk, Grow.nilv, HH.out, HQ.out, HR.out, Nat.le_refl _, Nat.zero_le _, by simp [weigh], Fr.refl _ _⟩
  have HST := Lib.hid hstart
  clear hstart
  go_wp2_with fail
  go_loopw [10, 11, 12] (fun av fv iv wr => ∃ (i : Nat) (all : List (List UInt8)) (F A B : Nat) (fn : Nat → Int) (st : Nat → Nat) (S : AS) (L : LS) (X1 : Nat → Prop) (Aa : Option Addr) (ca : Nat), i ≤ n ∧ i ≤ 60 ∧ av = .slice Aa all.length ca ∧ fv = .int .i64 (F : Nat) ∧ iv = .int .i64 (i : Nat) ∧ Grp w w1 wr X d g ds i all F A B fn st S L X1 (.slice Aa all.length ca)) (fun _ _ iv _ => n - (intOf iv).toNat)
  case atStart => exact ⟨0, [], 0, 1, 1, _, _, S0, L0, X, none, 0, Nat.zero_le _, by omega, rfl, rfl, rfl, HST.out⟩
  case round =>
    obtain ⟨i, all, F, Ag, B, fn, st, S, L, X1, Aa, ca, hin, hi60, rfl, rfl, rfl, hG⟩ := hrel
    have HG := Lib.hid hG
    clear hG
    by_cases hgo : i < n ∧ i < 60
    · obtain ⟨hlt, hlt60⟩ := hgo
      have hil : i < ds.length := by rw [HN.out]; exact hlt
      obtain ⟨gd, off, rfl, hgd, hcs⟩ := HC.out (by omega)
      obtain ⟨cs, -, hcs2, hcs3⟩ := hcs i hil
      have hrow : ∀ w', Fr (fun k => ¬ X k) w w' → w'.cell? ⟨gd, off + i, none⟩ = some (sv ds[i]) := fun w' hf => by
        have := (cell_eq (hf.block gd hgd fun hk => hk ((HX.out gd).2 hgd)) (off + i * 1 + 0)).trans (hcs2 0 (by omega))
        rw [hcs3.1] at this
        simpa using this
      have x0 := hrow wr (F2.out.thenX HG.out.fr)
      have HROW := Lib.hid hrow
      have hdl := HLEN.out _ (List.getElem_mem hil)
      have HAP := Lib.hid (append_any HG.out.lg (by omega) ds[i] (by omega))
      have HAC := Lib.hid (grp_append HG.out hil hlt60 HWS.out)
      have HWT := Lib.hid (weigh_take ds i hil)
      obtain ⟨dd, hdd⟩ : ∃ dd, ds[i] = dd := ⟨_, rfl⟩
      rw [hdd] at x0 HROW HAP HAC HWT hdl
      unfold gpt at HAP
      obtain ⟨⟨S2, L2, an, ae⟩, hR⟩ : ∃ R, appendL S L dd = R := ⟨_, rfl⟩
      rw [hR] at HAP HAC
      clear hcs hcs2 hcs3 hrow hdd hR hil
      go_wp2_with fail
      refine HAP.out.mono ?_
      rintro e w2 ⟨rfl, hl2, hf2⟩
      have HL2 := Lib.hid (show Lg w2 X1 d g (2 * i + 2) S2 L2 from hl2)
      have HF2 := Lib.hid hf2
      clear hl2 hf2 HAP
      rcases HAC.out with ⟨a1, a2, a3, a4, a5, B', fn', st', a6, a7⟩ | ⟨a1, a2, a4, a5, a6⟩
      · obtain rfl : an = ((all.length + 1 : Nat) : Int) := a1
        obtain rfl : ae = 0 := a2
        have A4 : Hid (Quiet S2) := Lib.hid a4
        have A5 : Hid (S2.room = 4194304) := Lib.hid a5
        have A6 : Hid (H S2 L2 (all ++ [dd]) F 0 Ag B' 1 fn' st') := Lib.hid a6
        have hsl : all.length ≤ i := HG.out.cnt
        have x1 := HROW.out w2 (F2.out.thenX (HG.out.fr.trans HF2.out fun k _ hk hx => hk (HG.out.sub k hx)))
        have hrow1 : Grow w.heap.size 9 1 strG w2 (.slice Aa all.length ca) all := HG.out.row.keepS HF2.out fun k hk hn => hn (HG.out.own k hk).1
        have hb : w.heap.size ≤ w2.heap.size := Nat.le_trans F2.out.size (Nat.le_trans HG.out.fr.size HF2.out.size)
        obtain ⟨A3, c3, w4, hap, hg4, f4, hlt4⟩ := hrow1.more strG_elem (w0 := w2) hb (Nat.le_refl _) (fun k hk => (hrow1.lt k hk).2) 46 Tryz.underlying46 (.string ⟨#[]⟩) info9 rfl (by omega) dd [sv dd] rfl (by simp [Value.oneCell', sv]) (show strE dd [sv dd] from ⟨rfl, by unfold maxLen; omega⟩) (by omega) (by unfold maxLen; omega)
        have hown4 : ∀ k, (Value.slice A3 (all.length + 1) c3).ownBlock = some k → w.heap.size ≤ k := fun k hk => (hg4.lt k hk).1
        obtain ⟨X2, hX2⟩ : ∃ X2 : Nat → Prop, (fun k => X1 k ∨ (Value.slice A3 (all.length + 1) c3).ownBlock = some k) = X2 := ⟨_, rfl⟩
        have hX2' : ∀ k, X2 k ↔ (X1 k ∨ (Value.slice A3 (all.length + 1) c3).ownBlock = some k) := fun k => by rw [← hX2]
        have hor : ∀ k, (Value.slice A3 (all.length + 1) c3).ownBlock = some k → X1 k ∨ w2.heap.size ≤ k := fun k hk => (hrow1.moreOwn hb (by omega) (by unfold maxLen; omega) hap k hk).imp (fun e => (HG.out.own k e).1) id
        have f4x : Fr (fun k => k = k ∧ X1 k) w2 w4 := f4.mono fun k _ hk => ⟨rfl, (HG.out.own k hk).1⟩
        have hlg4 : Lg w4 X2 d g (2 * i + 2) S2 L2 := HL2.out.grow f4 (fun k hk => ⟨(HG.out.own k hk).1, by have := (HG.out.own k hk).2; have := HV.out.lt; omega⟩) (fun k hk => (hX2' k).2 (.inl hk)) fun k hk => by
          rcases (hX2' k).1 hk with hk | hk
          · exact ⟨Nat.lt_of_lt_of_le (HL2.out.base k hk) f4.size, .inl hk⟩
          · exact ⟨hlt4 k hk, hor k hk⟩
        have hfr4 : Fr (fun k => ¬ X k) w1 w4 := (HG.out.fr.trans HF2.out fun k _ hk hx => hk (HG.out.sub k hx)).trans f4 fun k hk ho hx => by
          have := (HG.out.own k ho).2
          have := (HX.out k).1 hx
          omega
        have HLG4 := Lib.hid hlg4
        have HFR4 := Lib.hid hfr4
        have HG4 := Lib.hid hg4
        have HAPP := Lib.hid hap
        have HOWN4 : Hid (∀ k, (Value.slice A3 (all.length + 1) c3).ownBlock = some k → X2 k ∧ w.heap.size ≤ k) := Lib.hid fun k hk => ⟨(hX2' k).2 (.inr hk), hown4 k hk⟩
        have HSUB : Hid (∀ k, X k → X2 k) := Lib.hid fun k hk => (hX2' k).2 (.inl (HG.out.sub k hk))
        have hw1 : (((all.length + 1 : Nat) : Int) != ((all.length + 1 : Nat) : Int)) = false := by simp
        have hsn : weigh (all ++ [dd]) ≤ weigh (ds.take (i + 1)) := by rw [weigh_snoc, HWT.out]; have := HG.out.sum; omega
        have HSN := Lib.hid hsn
        obtain ⟨q, hq⟩ : ∃ q, all.length + 1 = q := ⟨_, rfl⟩
        have HQL : Hid ((all ++ [dd]).length = q) := Lib.hid (by simp; exact hq)
        have hqi : q ≤ i + 1 := by omega
        rw [hq] at HG4 HAPP HOWN4 hw1 ⊢
        obtain ⟨all2, hall2⟩ : ∃ all2, all ++ [dd] = all2 := ⟨_, rfl⟩
        rw [hall2] at HG4 A6 HSN HQL
        clear hX2 hX2' hor f4x hlg4 hfr4 hg4 hap hown4 hrow1 hb f4 hlt4 hsn hall2 hq a4 a5 a6 hsl
        go_upto_region 14 with (at_builtin; refine wpList_add rfl _ _ _ _ rfl _ _ _ _ rfl rfl (HAPP.out _) ?_)
        clear x1 x0 HAPP
        have fin : ∀ (wz : World) (S3 : AS) (L3 : LS) (F3 A3' : Nat), Lg wz X2 d g (2 * i + 2) S3 L3 → H S3 L3 all2 F3 0 A3' B' 1 fn' st' → Quiet S3 → S3.room = 4194304 → Fr (fun k => ¬ X2 k) w4 wz →
            Grp w w1 wz X d g ds (i + 1) all2 F3 A3' B' fn' st' S3 L3 X2 (.slice A3 q c3) := fun wz S3 L3 F3 A3' z1 z2 z3 z4 z5 =>
          ⟨by rw [show 2 * (i + 1) = 2 * i + 2 by omega]; exact z1, HSUB.out, HOWN4.out, HG4.out.keepS z5 fun k hk hn => hn (HOWN4.out k hk).1, z2, z3, z4, by omega, by rw [HQL.out]; omega, HSN.out, HFR4.out.trans z5 fun k _ hk hx => hk (HSUB.out k hx)⟩
        have FIN := Lib.hid fin
        clear fin
        by_cases hsy : ∃ hj : i < bs.length, bs[i] = true
        · obtain ⟨hj, hbt⟩ := hsy
          obtain ⟨gb, off2, rfl, hgb, hcs⟩ := HC2.out (by omega)
          obtain ⟨cs, -, hcs2, hcs3⟩ := hcs i hj
          have y0 : w4.cell? ⟨gb, off2 + i, none⟩ = some (.bool true) := by
            have := (cell_eq (((F2.out.thenX HFR4.out)).block gb hgb fun hk => hk ((HX.out gb).2 hgb)) (off2 + i * 1 + 0)).trans (hcs2 0 (by omega))
            rw [show cs = [.bool bs[i]] from hcs3, hbt] at this
            simpa using this
          have t3 : decide ((i : Int) < (m : Int)) = true := by simp; rw [← HM.out]; exact hj
          have him : (i : Int) < (m : Int) := by simpa using t3
          clear hcs hcs2 hcs3 hbt hj
          have HSY := syncL_any HLG4.out
          have HSC := Lib.hid (A6.out.sync_cases HLG4.out.dk.inv)
          have HQS := Lib.hid (A4.out.doSyncL A6.out.fault)
          unfold gpt at HSY
          obtain ⟨⟨S3, L3, se⟩, hR3⟩ : ∃ R, syncL S2 L2 = R := ⟨_, rfl⟩
          rw [hR3] at HSY HSC HQS
          have HSYH := Lib.hid HSY
          clear HSY hR3
          go_wp2_with fail
          refine HSYH.out.mono ?_
          rintro e w5 ⟨rfl, hl5, hf5⟩
          have HL5 := Lib.hid (show Lg w5 X2 d g (2 * i + 2) S3 L3 from hl5)
          have HF5 := Lib.hid hf5
          clear hl5 hf5 HSYH
          rcases HSC.out with ⟨s1, A3', s2⟩ | ⟨s1, _⟩
          · obtain rfl : se = 0 := s1
            have S2' : Hid (H S3 L3 all2 all2.length 0 A3' B' 1 fn' st') := Lib.hid s2
            have HFIRM := firm_any HL5.out
            rw [show L3.firm = (q : Int) by rw [← HQL.out]; exact S2'.out.firm] at HFIRM
            unfold gpt at HFIRM
            have HFIRMH := Lib.hid HFIRM
            clear s2 HFIRM HSC y0 t3
            have hqq : ((q : Int) != (q : Int)) = false := by simp
            go_wp2_with (refine HFIRMH.out.mono ?_; rintro e w' ⟨rfl, rfl⟩)
            refine ⟨⟨i + 1, all2, q, A3', B', fn', st', S3, L3, X2, A3, c3, by omega, by omega, by rw [HQL.out], rfl, by go_num, by rw [HQL.out]; have := FIN.out w5 S3 L3 q A3' HL5.out (by rw [← HQL.out]; exact S2'.out) HQS.out.1 (HQS.out.2.1.trans A5.out) HF5.out; exact this⟩, ?_⟩
            simp [intOf]; omega
          · exact absurd s1 HQS.out.2.2
        · have hdone : Grp w w1 w4 X d g ds (i + 1) all2 F Ag B' fn' st' S2 L2 X2 (.slice A3 q c3) := FIN.out w4 S2 L2 F Ag HLG4.out A6.out A4.out A5.out (Fr.refl _ _)
          have HD := Lib.hid hdone
          clear hdone
          by_cases hj : i < bs.length
          · have hbf : bs[i] = false := by
              cases hb : bs[i] with
              | true => exact absurd ⟨hj, hb⟩ hsy
              | false => rfl
            obtain ⟨gb, off2, rfl, hgb, hcs⟩ := HC2.out (by omega)
            obtain ⟨cs, -, hcs2, hcs3⟩ := hcs i hj
            have y0 : w4.cell? ⟨gb, off2 + i, none⟩ = some (.bool false) := by
              have := (cell_eq (((F2.out.thenX HFR4.out)).block gb hgb fun hk => hk ((HX.out gb).2 hgb)) (off2 + i * 1 + 0)).trans (hcs2 0 (by omega))
              rw [show cs = [.bool bs[i]] from hcs3, hbf] at this
              simpa using this
            have t3 : decide ((i : Int) < (m : Int)) = true := by simp; rw [← HM.out]; exact hj
            have him : (i : Int) < (m : Int) := by simpa using t3
            clear hcs hcs2 hcs3 hbf hj hsy
            go_wp2_with fail
            refine ⟨⟨i + 1, all2, F, Ag, B', fn', st', S2, L2, X2, A3, c3, by omega, by omega, by rw [HQL.out], rfl, by go_num, by rw [HQL.out]; exact HD.out⟩, ?_⟩
            simp [intOf]; omega
          · have hge : ¬ i < m := by rw [← HM.out]; exact hj
            have t3 : decide ((i : Int) < (m : Int)) = false := by simp; omega
            have t4 : decide (i < m) = false := by simp; omega
            clear hj hsy
            go_wp2_with fail
            refine ⟨⟨i + 1, all2, F, Ag, B', fn', st', S2, L2, X2, A3, c3, by omega, by omega, by rw [HQL.out], rfl, by go_num, by rw [HQL.out]; exact HD.out⟩, ?_⟩
            simp [intOf]; omega
      · obtain rfl : ae = 23 := a2
        obtain rfl : an = 0 := a1
        have hdone : Grp w w1 w2 X d g ds (i + 1) all F Ag B fn st S2 L2 X1 (.slice Aa all.length ca) :=
          ⟨by rw [show 2 * (i + 1) = 2 * i + 2 by omega]; exact HL2.out, HG.out.sub, HG.out.own, HG.out.row.keepS HF2.out fun k hk hn => hn (HG.out.own k hk).1, a6, a4, a5, by have := HG.out.B; omega, by have := HG.out.cnt; omega, by rw [HWT.out]; have := HG.out.sum; omega, HG.out.fr.trans HF2.out fun k _ hk hx => hk (HG.out.sub k hx)⟩
        have HD := Lib.hid hdone
        clear hdone a4 a5 a6 x0
        go_wp2_with fail
        refine ⟨⟨i + 1, all, F, Ag, B, fn, st, S2, L2, X1, Aa, ca, by omega, by omega, rfl, rfl, by go_num, HD.out⟩, ?_⟩
        simp [intOf]; omega
    · have hd0 := HG.out.lg.dk
      have hinv := hd0.inv
      obtain ⟨a, b, st', t', j1, j2, j3, j4, j5, j6, j7⟩ := HG.out.h.j.crash hinv []
      have harm : (S.crashed []).armed = false := rfl
      obtain ⟨SC, hSC⟩ : ∃ SC, S.crashed [] = SC := ⟨_, rfl⟩
      have HCR : Hid (Calls Tryz.prog 23 #[.pointer (some ⟨d, 0, none⟩), .slice none 0 0] wr fun e w' => e = .returned (.tuple #[]) ∧ Dk w' X1 d (2 * i) SC ∧ Fr (fun k => ¬ X1 k) wr w') := Lib.hid (by
        rw [← hSC]
        exact x_crash hd0 0 none 0 0 [] ⟨rfl, by omega, by simp, fun h => absurd h (by omega)⟩ fun h => absurd h (by omega))
      rw [hSC] at j1 j3 j6 j7 harm
      have HJ1 := Lib.hid j1
      have HJ3 := Lib.hid j3
      have HF := Lib.hid j1.F_le
      have HE := Lib.hid (j1.held.le b j1.ab (Nat.le_refl _))
      have HSM := Lib.hid HG.out.cnt
      obtain ⟨e1, he1⟩ : ∃ e1, st' b = e1 := ⟨_, rfl⟩
      have HOC : Hid (∀ N, Inv N SC → ∃ S' L', openW SC 0 = .ok (S', L', recsOf (sl all 0 e1) 0)) := Lib.hid fun N hN => by
        rcases j1.open_cases hN j6 j7 j3 j4 j5 with ⟨S', L', o1, o2, o3⟩ | ⟨t'', _, _, h3⟩
        · exact ⟨S', L', by rw [← he1]; exact o1⟩
        · rw [harm] at h3; exact nomatch h3
      rw [he1] at HF HE
      have HJ6 := Lib.hid j6
      have c1 : decide ((e1 : Int) < (F : Int)) = false := by simp; exact HF.out
      have c2 : decide (e1 < F) = false := by simp; exact HF.out
      have c3 : decide ((all.length : Int) < (e1 : Int)) = false := by simp; exact HE.out
      have c4 : decide (all.length < e1) = false := by simp; exact HE.out
      have HLO1 : Hid (∀ k, k < 4 → X1 k) := Lib.hid fun k hk => HG.out.sub k (HLO.out k hk)
      clear hd0 hinv j1 j2 j3 j4 j5 j6 j7 harm hSC he1
      have tail : ∀ w5, Dk w5 X1 d (2 * i) SC → Fr (fun k => ¬ X1 k) wr w5 → Calls Tryz.prog 19 #[.pointer (some ⟨d, 0, none⟩), .int .i64 0] w5 fun e w' => ∃ g2 A7 c7, e = .returned (.tuple #[.pointer (some ⟨g2, 0, none⟩), .slice A7 e1 c7, .int .i64 0]) ∧ Grow w5.heap.size 52 2 recG w' (.slice A7 e1 c7) (recsOf (sl all 0 e1) 0) ∧ Grow w.heap.size 9 1 strG w' (.slice Aa all.length ca) all ∧ Fr (fun k => ¬ X k) w w' := fun w5 hd5 hf5 => by
        obtain ⟨S', L', o1⟩ := HOC.out _ hd5.inv
        refine (open_on 0 hd5 (HG.out.lg.vr.x HLO1.out hf5) HLO1.out (by omega) HJ6.out (by omega) (by omega)).mono ?_
        rintro e w6 ⟨ho, -, hv6, hf6⟩
        obtain ⟨g2, A7, c7, X7, he, hx7, hl7, hg7, hown7, -⟩ := ho _ o1
        have hlen : (recsOf (sl all 0 e1) 0).length = e1 := by rw [recsOf_len, sl_len HE.out]; omega
        simp only [hlen] at he hg7
        refine ⟨g2, A7, c7, he, hg7, (HG.out.row.keepS hf5 fun k hk hn => hn (HG.out.own k hk).1).keepS hf6 fun k hk hn => hn (HG.out.own k hk).1, ?_⟩
        exact ((F2.out.thenX HG.out.fr).trans hf5 fun k _ hk hx => hk (HG.out.sub k hx)).trans hf6 fun k _ hk hx => hk (HG.out.sub k hx)
      have HT := Lib.hid tail
      clear tail HOC
      have t0 : (i < n ∧ ¬ i < 60) ∨ ¬ i < n := by omega
      obtain ⟨la, hla⟩ : ∃ la, all.length = la := ⟨_, rfl⟩
      rw [hla] at c3 c4 ⊢
      have HLA := Lib.hid hla
      clear hla hgo
      rcases t0 with ⟨t1, t2⟩ | t1
      all_goals
        go_wp2_with fail
        refine HCR.out.mono ?_
        rintro e w5 ⟨rfl, h5, f5⟩
        have HT5 := Lib.hid (HT.out w5 h5 f5)
        clear h5 f5 HCR HT
        go_wp2_with fail
        refine HT5.out.mono ?_
        rintro e w6 ⟨g2, A7, c7, rfl, hg7, hga, hf6⟩
        have HG7 := Lib.hid hg7
        have HGA := Lib.hid hga
        have HF6 := Lib.hid hf6
        clear hg7 hga hf6 HT5
        go_wp2_with fail
        go_loopw [18] (fun iv wx => ∃ j : Nat, j ≤ e1 ∧ iv = .int .i64 (j : Nat) ∧ Fr No w6 wx) (fun iv _ => e1 - (intOf iv).toNat)
        case atStart => exact ⟨0, Nat.zero_le _, rfl, Fr.refl _ _⟩
        case round =>
          obtain ⟨j, hj, rfl, hfx⟩ := hrel
          have HFX := Lib.hid hfx
          clear hfx
          by_cases hlt : j < e1
          · have hE := HE.out
            have hcn := HSM.out
            have hlen : (sl all 0 e1).length = e1 := by rw [sl_len hE]; omega
            obtain ⟨gt, rfl, -, hgl, hcl⟩ := HG7.out.recAt j (by rw [recsOf_len, hlen]; exact hlt)
            obtain ⟨z0o, z1o⟩ := hcl wr (HFX.out.block gt hgl id)
            have hget := recsOf_get (sl all 0 e1) 0 j (by omega)
            have hgl2 : (recsOf (sl all 0 e1) 0)[j]'(by rw [recsOf_len, hlen]; exact hlt) = ⟨((0 + j + 1 : Nat) : Int), all[j]'(by omega)⟩ := by
              have := List.getElem?_eq_some_iff.1 hget
              obtain ⟨_, h2⟩ := this
              rw [h2]
              simp only [sl, List.drop_zero, List.getElem_take]
            have z0 : wr.cell? ⟨gt, j * 2, none⟩ = some (.int .i64 ((0 + j + 1 : Nat) : Int)) := by rw [hgl2] at z0o; exact z0o
            have z1 : wr.cell? ⟨gt, j * 2 + 1, none⟩ = some (sv (all[j]'(by omega))) := by rw [hgl2] at z1o; exact z1o
            clear z0o z1o
            obtain ⟨ga, hga1, -, hga2, hga3⟩ := HGA.out.strAt j (by omega)
            have z2 := hga3 wr (HFX.out.block ga hga2 id)
            subst hga1
            obtain ⟨dj, hdj⟩ : ∃ dj, all[j]'(by omega) = dj := ⟨_, rfl⟩
            obtain ⟨jj, hjj⟩ : ∃ jj, 0 + j + 1 = jj := ⟨_, rfl⟩
            rw [hdj] at z1 z2
            rw [hjj] at z0
            have hwj : IntKind.i64.wrap ((j : Int) + 1) = (jj : Int) := by rw [show (j : Int) + 1 = (jj : Int) by omega]; exact IntWalk.i64_in _ (by omega)
            have b0 : ((jj : Int) != (jj : Int)) = false := by simp
            have b1 : (dj != dj) = false := by simp
            have b2 : (0 : Int) ≤ (j : Int) := by omega
            have b3 : (j : Int) < (e1 : Int) := by omega
            have b4 : (j : Int) < (la : Int) := by have := HLA.out; omega
            have b5 : (la : Int) ≤ 1000 := by have := HLA.out; omega
            have b6 : (e1 : Int) ≤ 1000 := by omega
            have hjj2 : jj = j + 1 := by omega
            clear hget hgl2 hgl hcl hga2 hga3 hdj hlen hjj
            go_upto_region 27 with fail
            go_quiet (fail)
            all_goals go_wp2_with fail
            all_goals refine ⟨⟨j + 1, by omega, by go_num, HFX.out.drewN nq⟩, ?_⟩
            all_goals simp [intOf]
            all_goals omega
          · have hje : ¬ (j : Int) < (e1 : Int) := by omega
            go_wp2
            go_ret
            have hfin := HF6.out.trans HFX.out fun _ _ hk => hk.elim
            exact ⟨rfl, hfin.below_of (Nat.le_refl _) fun k hk => by have := mt (HX.out k).2 hk; omega⟩
end Go.Proofs.YtccjkolcmdhliaaGreatDoor
