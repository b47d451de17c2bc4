/- One byte of a frame turned; a disk of one file (plain). -/
import Derived.Test.YtccjkolcmdhliaaGreatDoorM7
namespace Go.Proofs.YtccjkolcmdhliaaGreatDoor
open Go.RowKit Go.Maps Go.Sort
set_option linter.unusedVariables false

/-! ### one element turned -/
def tn (s : List UInt8) (i : Nat) (c : UInt8) : List UInt8 := s.take i ++ c :: s.drop (i + 1)
theorem tn_len {s : List UInt8} {i : Nat} {c : UInt8} (h : i < s.length) : (tn s i c).length = s.length := by
  unfold tn
  simp only [List.length_append, List.length_cons, List.length_take, List.length_drop]
  omega
theorem tn_ne {s : List UInt8} {i : Nat} {c : UInt8} (h : i < s.length) (hc : s[i]? ≠ some c) : tn s i c ≠ s := by
  intro e
  apply hc
  rw [← e]
  unfold tn
  rw [List.getElem?_append_right (by simp; omega)]
  have : i - (s.take i).length = 0 := by simp; omega
  rw [this]; rfl
theorem tn_right (a b : List UInt8) (i : Nat) (c : UInt8) : tn (a ++ b) (a.length + i) c = a ++ tn b i c := by
  unfold tn
  rw [List.take_append, List.take_of_length_le (by omega), Nat.add_sub_cancel_left, List.drop_append, List.drop_of_length_le (by omega), show a.length + i + 1 - a.length = i + 1 by omega]
  simp
theorem tn_left (a b : List UInt8) (i : Nat) (c : UInt8) (h : i < a.length) : tn (a ++ b) i c = tn a i c ++ b := by
  unfold tn
  rw [List.take_append_of_le_length (by omega), List.drop_append_of_le_length (by omega)]
  simp
theorem num_inj {a b : List UInt8} (hl : a.length = b.length) (h : num a = num b) : a = b := by
  have h1 := low_num a
  have h2 := low_num b
  rw [h, hl] at h1
  exact h1.symm.trans h2

/-- A frame whose check isn't its body's. -/
theorem unf_bad (n : Nat) (C B R : List UInt8) (hl : n ≤ 65536) (hC : C.length = 4) (hB : B.length = n) (hne : crc B ≠ num C) :
    (unfR (low n 4 ++ (C ++ (B ++ R)))).2.2 = 21 := by
  have h4 : (low n 4 ++ (C ++ (B ++ R))).take 4 = low n 4 := List.take_left' (low_len 4 _)
  have d4 : (low n 4 ++ (C ++ (B ++ R))).drop 4 = C ++ (B ++ R) := List.drop_left' (low_len 4 _)
  have d8 : (low n 4 ++ (C ++ (B ++ R))).drop 8 = B ++ R := by
    have : ∀ X : List UInt8, X.drop 8 = (X.drop 4).drop 4 := fun X => by rw [List.drop_drop]
    rw [this, d4]; exact List.drop_left' hC
  have t4 : (C ++ (B ++ R)).take 4 = C := List.take_left' hC
  have hlen : (low n 4 ++ (C ++ (B ++ R))).length = 8 + n + R.length := by simp [low_len]; omega
  have hb : (B ++ R).take n = B := List.take_left' hB
  unfold unfR
  rw [h4, num_low_of (by omega), d8, hb, d4, t4, hlen]
  rw [if_neg (by omega), if_neg (by omega), if_neg (by omega), if_pos hne]
/-- A frame one byte of whose check or body is turned. -/
theorem frame_turned (l R : List UInt8) (hl : l.length ≤ 65536) (q : Nat) (hq : q < l.length + 4) (c : UInt8) (hc : (frameR l)[4 + q]? ≠ some c) :
    (unfR (tn (frameR l ++ R) (4 + q) c)).2.2 = 21 := by
  have e : frameR l = low l.length 4 ++ (low (crc l) 4 ++ l) := by unfold frameR; rw [List.append_assoc]
  have hl4 := low_len 4 l.length
  have hc4 := low_len 4 (crc l)
  rw [e, List.getElem?_append_right (by omega), hl4, Nat.add_sub_cancel_left] at hc
  have e2 : tn (frameR l ++ R) (4 + q) c = low l.length 4 ++ tn (low (crc l) 4 ++ (l ++ R)) q c := by
    have h := tn_right (low l.length 4) (low (crc l) 4 ++ (l ++ R)) q c
    rw [hl4] at h
    rw [e, ← h]
    simp only [List.append_assoc]
  rw [e2]
  by_cases h4 : q < 4
  · rw [List.getElem?_append_left (by omega)] at hc
    rw [tn_left _ _ _ _ (by omega)]
    refine unf_bad l.length _ l R hl (by rw [tn_len (by omega), hc4]) rfl fun h => ?_
    refine tn_ne (s := low (crc l) 4) (by omega) hc (num_inj (tn_len (by omega)) ?_)
    rw [← h, num_low_of (by have := crc_lt l; omega)]
  · obtain ⟨p, rfl⟩ : ∃ p, q = 4 + p := ⟨q - 4, by omega⟩
    rw [List.getElem?_append_right (by omega), hc4, Nat.add_sub_cancel_left] at hc
    have h := tn_right (low (crc l) 4) (l ++ R) p c
    rw [hc4] at h
    rw [h, tn_left _ _ _ _ (by omega)]
    refine unf_bad l.length _ _ R hl hc4 (tn_len (by omega)) fun hh => ?_
    rw [num_low_of (by have := crc_lt l; omega)] at hh
    have hp : p < l.length := by omega
    have hl' : l = l.take p ++ l[p] :: l.drop (p + 1) := by rw [← List.drop_eq_getElem_cons hp, List.take_append_drop]
    have hne : c ≠ l[p] := fun h => hc (by rw [List.getElem?_eq_getElem hp, h])
    exact crc_turned (l.take p) (l.drop (p + 1)) c l[p] hne (by rw [← hl']; exact hh)

/-- Records, and then a frame that is wrong. -/
theorem scan_bad : ∀ (ds : List (List UInt8)) (i : Nat) (pre t D : List UInt8) (rs : List RcP) (k : Nat), Small ds → (unfR t).2.2 = 21 → After rs i → D = pre ++ (frames ds i ++ t) → i + ds.length ≤ 9223372036854775807 → ds.length < k →
    scanW k rs D pre.length = none
  | [], i, pre, t, D, rs, k, hs, ht, ha, hD, hi, hk => by
    obtain ⟨k, rfl⟩ : ∃ j, k = j + 1 := ⟨k - 1, by simp at hk; omega⟩
    simp only [frames, List.nil_append] at hD
    have hne : t ≠ [] := fun e => by rw [e] at ht; revert ht; unfold unfR; simp
    have hlt : pre.length < D.length := by
      rw [hD, List.length_append]
      have := List.length_pos_iff.2 hne
      omega
    rw [scanW_step hlt, show D.drop pre.length = t by rw [hD]; exact List.drop_left' rfl, ht, if_neg (by decide), if_pos (by decide)]
  | d :: ds, i, pre, t, D, rs, k, hs, ht, ha, hD, hi, hk => by
    obtain ⟨k, rfl⟩ : ∃ j, k = j + 1 := ⟨k - 1, by simp at hk; omega⟩
    have hd : d.length ≤ 65524 := hs d (by simp)
    have hb := body_le ((i + 1 : Nat) : Int) hd
    have hfl := frameR_len (body ((i + 1 : Nat) : Int) d)
    simp only [List.length_cons] at hi hk
    have hdr : D.drop pre.length = frameR (body ((i + 1 : Nat) : Int) d) ++ (frames ds (i + 1) ++ t) := by
      rw [hD, List.drop_left' rfl, frames, List.append_assoc]
    have hlt : pre.length < D.length := by rw [hD, List.length_append, frames]; simp only [List.length_append]; omega
    rw [scanW_step hlt, hdr, unf_frame _ _ hb]
    simp only
    rw [if_neg (by decide), if_neg (by simp), unRec_body _ _ (by omega) (by omega)]
    simp only
    rw [if_neg (by simp), follows_after ha, if_pos rfl]
    have hpl : pre.length + ((body ((i + 1 : Nat) : Int) d).length + 8) = (pre ++ frameR (body ((i + 1 : Nat) : Int) d)).length := by rw [List.length_append]; omega
    rw [hpl]
    exact scan_bad ds (i + 1) (pre ++ frameR (body ((i + 1 : Nat) : Int) d)) t D (rs ++ [⟨((i + 1 : Nat) : Int), d⟩]) k (fun x hx => hs x (by simp [hx])) ht (.inr ⟨⟨((i + 1 : Nat) : Int), d⟩, by rw [List.getLast?_append]; rfl, rfl, by omega⟩) (by rw [hD, frames]; simp [List.append_assoc]) (by omega) (by omega)

theorem frames_many : ∀ (ds : List (List UInt8)) (i : Nat), 12 * ds.length ≤ (frames ds i).length
  | [], i => by simp
  | d :: ds, i => by
    have := frames_many ds (i + 1)
    rw [frames, List.length_cons, List.length_append, frameR_len, body_len]
    omega
/-- Where record j begins. -/
def beg (ds : List (List UInt8)) (j : Nat) : Nat := (frames (ds.take j) 0).length
theorem beg_zero (ds : List (List UInt8)) : beg ds 0 = 0 := by unfold beg; simp [frames]
theorem frames_at (ds : List (List UInt8)) (j : Nat) (hj : j < ds.length) :
    frames ds 0 = frames (ds.take j) 0 ++ (frameR (body ((j + 1 : Nat) : Int) ds[j]) ++ frames (ds.drop (j + 1)) (j + 1)) := by
  have e : ds = ds.take j ++ ds[j] :: ds.drop (j + 1) := by rw [← List.drop_eq_getElem_cons hj, List.take_append_drop]
  have hl : (ds.take j).length = j := by rw [List.length_take]; omega
  have h := frames_append (ds.take j) (ds[j] :: ds.drop (j + 1)) 0
  rw [← e, hl, Nat.zero_add, frames] at h
  exact h
theorem beg_step (ds : List (List UInt8)) (j : Nat) (hj : j < ds.length) : beg ds (j + 1) = beg ds j + (frameR (body ((j + 1 : Nat) : Int) ds[j])).length := by
  unfold beg
  have hl : (ds.take j).length = j := by rw [List.length_take]; omega
  rw [List.take_succ_eq_append_getElem hj, frames_append, List.length_append, hl, Nat.zero_add, frames, frames, List.append_nil]
theorem beg_all (ds : List (List UInt8)) : beg ds ds.length = (frames ds 0).length := by unfold beg; rw [List.take_length]
/-- All of it is refused. -/
theorem scan_turned (ds : List (List UInt8)) (hs : Small ds) (hn : ds.length ≤ 1000000) (j : Nat) (hj : j < ds.length) (q : Nat) (hq : beg ds j + 4 + q < beg ds (j + 1)) (c : UInt8) (hc : (frames ds 0)[beg ds j + 4 + q]? ≠ some c) (k : Nat) (hk : ds.length < k) :
    scanW k [] (tn (frames ds 0) (beg ds j + 4 + q) c) 0 = none := by
  have hst := beg_step ds j hj
  have hfr := frameR_len (body ((j + 1 : Nat) : Int) ds[j])
  have hd : ds[j].length ≤ 65524 := hs _ (List.getElem_mem hj)
  have hb := body_le ((j + 1 : Nat) : Int) hd
  rw [frames_at ds j hj] at hc ⊢
  have ep : beg ds j + 4 + q = (frames (ds.take j) 0).length + (4 + q) := by unfold beg; omega
  rw [ep] at hc ⊢
  rw [List.getElem?_append_right (by omega), Nat.add_sub_cancel_left, List.getElem?_append_left (by omega)] at hc
  rw [tn_right]
  have := scan_bad (ds.take j) 0 [] (tn (frameR (body ((j + 1 : Nat) : Int) ds[j]) ++ frames (ds.drop (j + 1)) (j + 1)) (4 + q) c) _ [] k (fun d hd => hs d (List.mem_of_mem_take hd)) (frame_turned _ _ hb q (by omega) c hc) (.inl rfl) (List.nil_append _).symm (by rw [List.length_take]; omega) (by rw [List.length_take]; omega)
  exact this

/-! ### a disk of one file -/
theorem new_used (room : Int) : usedOf (AS.new room).file (AS.new room).names = 0 := rfl
theorem nm1_ok : checkOf true [nm 1] = 0 := by unfold checkOf; simp [nm_ok (show 1 ≤ 1 by omega) (by omega)]
def one0 (s : List UInt8) : AS := (((AS.new 10000).made (nm 1)).written 1 { bytes := [], firm := 0 } s)
theorem one_write (s : List UInt8) (hs : s.length ≤ 10000) : (AS.new 10000).write (nm 1) s = ((one0 s).step, 0) := by
  unfold AS.write
  rw [show (AS.new 10000).on = true from rfl, if_pos nm1_ok, new_used, show (AS.new 10000).room = 10000 from rfl, if_neg (by omega)]
  rfl
theorem one_view (s : List UInt8) : View (one0 s).names 1 2 (fun _ => 1) := by
  have h := (J.newSeg (H.new (room := 10000) 0 rfl).j (inv_new 10000) (by omega) rfl (d := []) (by simp) (by simp) (Nat.le_refl _) (Nat.le_refl _) (H.new (room := 10000) 0 rfl).view (Nat.le_refl _) (fun r h => by omega)).2
  exact h.congr fun k h1 h2 => by
    have : k = 1 := by omega
    subst this
    rfl
theorem one_file (s : List UInt8) : (one0 s).file 1 = some { bytes := s, firm := 0 } := by
  exact upd_same ((AS.new 10000).made (nm 1)).file 1 (some { bytes := s, firm := 0 })
theorem step_plain (S : AS) (h : S.armed = false) : S.step = { S with steps := wrap64 (S.steps + 1) } ∧ S.stepE = 0 := by
  unfold AS.step AS.stepE
  rw [h]
  exact ⟨rfl, rfl⟩
/-- The disk behind Write. -/
structure Uno (S : AS) (s : List UInt8) (f : Nat) : Prop where
  on : S.on = true
  armed : S.armed = false
  view : View S.names 1 2 (fun _ => 1)
  file : S.file 1 = some { bytes := s, firm := f }
theorem one_1 (s : List UInt8) : Uno (one0 s).step s 0 := by
  obtain ⟨h, _⟩ := step_plain (one0 s) rfl
  rw [h]
  exact ⟨rfl, rfl, one_view s, one_file s⟩
theorem Uno.get {S : AS} {s : List UInt8} {f : Nat} (h : Uno S s f) : look S.names (nm 1) = some 1 := h.view.at (k := 1) (by omega) (by omega)
theorem Uno.sync {S : AS} {s : List UInt8} {f : Nat} (h : Uno S s f) : (S.sync (nm 1)).2 = 0 ∧ Uno (S.sync (nm 1)).1 s s.length := by
  obtain ⟨h1, h2⟩ := step_plain S h.armed
  unfold AS.sync
  rw [h.on, if_pos nm1_ok, h.get]
  simp only [h.file]
  rw [if_pos h2, h1]
  exact ⟨rfl, h.on, h.armed, h.view, upd_same S.file 1 (some { bytes := s, firm := s.length })⟩
theorem Uno.settle {S : AS} {s : List UInt8} {f N : Nat} (h : Uno S s f) (hi : Inv N S) : S.settle.2 = 0 ∧ Uno S.settle.1 s f ∧ S.settle.1.loose = [] ∧ S.settle.1.firm = S.settle.1.names := by
  obtain ⟨h1, h2⟩ := step_plain S h.armed
  have hk : keeps S.names 1 = true := keeps_of hi.names h.get
  unfold AS.settle
  rw [h.on, if_pos rfl, if_pos h2, h1]
  exact ⟨rfl, ⟨h.on, h.armed, h.view, by
    show (if keeps S.names 1 = true then S.file 1 else none) = _
    rw [if_pos hk]; exact h.file⟩, rfl, rfl⟩
/-- It opens, and all records are there. -/
theorem Uno.opens {S : AS} {ds : List (List UInt8)} {f N : Nat} (h : Uno S (frames ds 0) f) (hi : Inv N S) (hs : Small ds) (hn : ds.length ≤ 1000000) (hl : S.loose = []) (hf : S.firm = S.names) :
    ∃ S' L', openW S 0 = .ok (S', L', recsOf (sl ds 0 ds.length) 0) := by
  have hsl : sl ds 0 ds.length = ds := by unfold sl; simp
  have hj : J S ds 0 0 1 2 (fun _ => 1) (fun k => if k ≤ 1 then 0 else ds.length) [] := by
    refine ⟨Nat.le_refl _, by omega, by omega, ⟨fun k h1 h2 => ?_, fun k h1 h2 => ?_, fun k h1 h2 => by omega, fun k h1 h2 => ?_, hs, hn, .inl rfl⟩, fun k r h1 h2 => by omega, fun k r h1 h2 hr => ?_, fun j k h1 h2 h3 h4 _ => by omega, fun j hj => ?_, Nat.le_refl _⟩
    · rw [if_pos (by omega)]; exact Nat.zero_le _
    · split <;> omega
    · obtain rfl : k = 1 := by omega
      refine ⟨_, h.file, ?_⟩
      simp only
      rw [if_pos (by omega), if_neg (by omega), List.append_nil]
      unfold seg
      rw [hsl]
    · obtain rfl : k = 1 := by omega
      rw [if_pos (by omega), Nat.max_self, seg_nil]
      exact Nat.zero_le _
    · have hj0 : j = 0 := by rw [hl] at hj; simpa using hj
      subst hj0
      refine ⟨1, 2, Nat.le_refl _, by omega, Nat.le_refl _, ?_, by simp, Nat.zero_le _, fun e => by omega⟩
      rw [past_zero, hf]
      exact h.view
  rcases hj.open_cases hi h.on hl h.view (by simp) (fun e => by omega) with ⟨S', L', h1, _, _⟩ | ⟨t', _, _, h2⟩
  · exact ⟨S', L', h1⟩
  · rw [h.armed] at h2; cases h2
/-- It doesn't, if its bytes can't be scanned. -/
theorem Uno.refused {S : AS} {s : List UInt8} {f N : Nat} (h : Uno S s f) (hi : Inv N S) (hb : scanW (s.length + 1) [] s 0 = none) : openW S 0 = .error 24 := by
  have hk := h.view.keys hi.names
  have hs1 : segsW (sortedKeys S.names) = [1] := by
    rw [hk]
    have := segsW_range 1 1 (by omega) (by omega)
    exact this
  have hr : S.read (nameW 1) = (s, 0) := by
    unfold AS.read
    rw [h.on, show nameW 1 = nm 1 from rfl, if_pos nm1_ok, h.get]
    simp only [h.file]
  unfold openW
  rw [hs1, loadW_cons]
  have : loadStep S true ([], L0, false) 1 = .error 24 := by
    unfold loadStep
    rw [if_neg (fun hc => by cases hc.1), if_neg (by simp), hr]
    simp only
    rw [if_neg (by simp), hb]
  rw [this]
  rfl
end Go.Proofs.YtccjkolcmdhliaaGreatDoor
