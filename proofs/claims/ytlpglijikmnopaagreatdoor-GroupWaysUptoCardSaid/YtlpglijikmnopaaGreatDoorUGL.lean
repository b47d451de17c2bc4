/- The dimensions of a set, by both; rows that grow by one. -/
import Derived.Test.YtlpglijikmnopaaGreatDoorUG1
namespace Go.Proofs.YtlpglijikmnopaaGreatDoor
open Go.RowKit Go.Maps Go.Sort
set_option linter.unusedVariables false

/-- The set of one dimension; of what is none: the empty one. -/
def bitI (d : Int) : Nat := if 0 ≤ d ∧ d < 6 then 2 ^ d.toNat else 0
def ofL (l : List Int) : Nat := l.foldl (fun a d => a ||| bitI d) 0
def listB (s : Int) : List Nat := if 0 ≤ s ∧ s < 64 then (List.range 6).filter fun d => s.toNat / 2 ^ d % 2 = 1 else []
def natG (_ : Nat → Prop) (_ : World) (n : Nat) (cs : List Value) : Prop := cs = [.int .i64 (n : Int)]
theorem natG_elem : Elem natG := ⟨fun _ _ _ _ _ _ h _ => h⟩
theorem ofInt_i64 (a : Nat) (ha : a < 9223372036854775808) : (BitVec.ofInt 64 (a : Int)).toNat = a := by
  rw [BitVec.ofInt_natCast, BitVec.toNat_ofNat]; exact Nat.mod_eq_of_lt (by omega)
theorem i64_or_nat (a b : Nat) (ha : a < 4611686018427387904) (hb : b < 4611686018427387904) : bits .or .i64 (a : Int) (b : Int) = ((a ||| b : Nat) : Int) := by
  have hx : a ||| b < 2 ^ 62 := Nat.or_lt_two_pow (by omega) (by omega)
  show IntKind.i64.wrap ((BitVec.ofInt 64 (a : Int) ||| BitVec.ofInt 64 (b : Int)).toNat : Int) = _
  rw [BitVec.toNat_or, ofInt_i64 a (by omega), ofInt_i64 b (by omega), IntKind.wrap_i64]
  omega
theorem i64_and_nat (a b : Nat) (ha : a < 4611686018427387904) (hb : b < 4611686018427387904) : bits .and .i64 (a : Int) (b : Int) = ((a &&& b : Nat) : Int) := by
  have hx : a &&& b < 2 ^ 62 := Nat.and_lt_two_pow _ (by omega)
  show IntKind.i64.wrap ((BitVec.ofInt 64 (a : Int) &&& BitVec.ofInt 64 (b : Int)).toNat : Int) = _
  rw [BitVec.toNat_and, ofInt_i64 a (by omega), ofInt_i64 b (by omega), IntKind.wrap_i64]
  omega
theorem i64_and1 (a : Nat) (ha : a < 4611686018427387904) : bits .and .i64 (a : Int) 1 = ((a % 2 : Nat) : Int) := by
  rw [← Nat.and_one_is_mod]; exact i64_and_nat a 1 ha (by decide)

theorem or64 {a b : Nat} (ha : a < 64) (hb : b < 64) : a ||| b < 64 := Nat.or_lt_two_pow (n := 6) ha hb
theorem bitI_lt (d : Int) : bitI d < 64 := by
  unfold bitI
  split
  · rename_i h
    have : d.toNat < 6 := by omega
    calc 2 ^ d.toNat < 2 ^ 6 := Nat.pow_lt_pow_right (by decide) this
      _ = 64 := rfl
  · decide
theorem fold_or_lt {α : Type} (f : α → Nat) : ∀ (l : List α) (a : Nat), a < 64 → (∀ x ∈ l, f x < 64) → l.foldl (fun a x => a ||| f x) a < 64
  | [], a, h, _ => h
  | x :: l, a, h, hl => fold_or_lt f l _ (or64 h (hl x (by simp))) fun y hy => hl y (by simp [hy])
theorem ofL_lt (l : List Int) : ofL l < 64 := fold_or_lt bitI l 0 (by decide) fun _ _ => bitI_lt _
theorem take_succ {α : Type} {l : List α} {j : Nat} (h : j < l.length) : l.take (j + 1) = l.take j ++ [l[j]] := by
  rw [List.take_add_one, List.getElem?_eq_getElem h]; rfl
theorem ofL_take {l : List Int} {j : Nat} (h : j < l.length) : ofL (l.take (j + 1)) = ofL (l.take j) ||| bitI l[j] := by
  rw [take_succ h]; unfold ofL; rw [List.foldl_append]; rfl
set_option maxRecDepth 100000 in
/-- Of. -/
theorem sof_any {K : Nat → Prop} {l : List Int} {v : Value} (w : World) (h : RowE K w 1 (intG K w) v l) : Calls Tryz.prog 87 #[v] w (TellsI (ofL l : Nat) w) := by
  obtain ⟨A, c, rfl, hlc, hcm, hrow⟩ := h
  obtain ⟨n, hn⟩ : ∃ n, l.length = n := ⟨_, rfl⟩
  rw [hn] at hlc ⊢
  have HROW := Lib.hid hrow
  have HN := Lib.hid hn
  unfold maxLen at hcm
  clear hrow hn
  go_enter Tryz.func87, Tryz.ntmps87
  go_wp2_with fail
  go_loopg [3, 5, 8] n (fun k r3 r5 r8 wr => Hid (∃ j : Nat, r8 = .int .i64 (j : Nat) ∧ j + k = n ∧ r3 = .int .i64 ((ofL (l.take j) : Nat) : Int) ∧ Fr No w wr))
  case atStart => exact Lib.hid ⟨0, rfl, by omega, rfl, Fr.refl _ _⟩
  case round =>
  obtain ⟨j, rfl, hjn, rfl, hf⟩ := hrel.out
  clear hrel
  by_cases hj : j < n
  · have hji : (j : Int) < (n : Int) := by omega
    have hjl : j < l.length := by rw [HN.out]; exact hj
    obtain ⟨g, off, rfl, hK, hg, hel⟩ := HROW.out (by omega)
    obtain ⟨cs, hcl, hcs, hE⟩ := hel j hjl
    obtain ⟨hE, hi⟩ := hE
    have e0 : wr.cell? ⟨g, off + j, none⟩ = some (.int .i64 l[j]) := (cell_of_heap (hf.block g hg id)).trans (by have := hcs 0 (by decide); rw [hE] at this; simpa using this)
    obtain ⟨x, hx⟩ : ∃ x, l[j] = x := ⟨_, rfl⟩
    obtain ⟨u, hu⟩ : ∃ u, ofL (l.take j) = u := ⟨_, rfl⟩
    obtain ⟨z, hz⟩ : ∃ z, u ||| bitI x = z := ⟨_, rfl⟩
    have HU : Hid (ofL (l.take (j + 1)) = z) := Lib.hid (by rw [ofL_take hjl, hx, hu, hz])
    have hu64 : u < 64 := by rw [← hu]; exact ofL_lt _
    have HF := Lib.hid hf
    rw [hx] at e0
    rw [hu]
    clear hcs hcl hel hK hf hE hx hu hi
    by_cases hin : 0 ≤ x ∧ x < 6
    · obtain ⟨k, rfl⟩ := Int.eq_ofNat_of_zero_le hin.1
      have hk : k < 6 := by omega
      have hb : bitI (k : Int) = 2 ^ k := by unfold bitI; rw [if_pos hin]; rfl
      have hk64 : 2 ^ k < 64 := by rw [← hb]; exact bitI_lt _
      have hw : IntKind.i64.wrap ((2 : Int) ^ k) = ((2 ^ k : Nat) : Int) := by
        rw [show ((2 : Int) ^ k) = ((2 ^ k : Nat) : Int) by simp, IntKind.wrap_i64]; omega
      have hor : bits .or .i64 (u : Int) ((2 ^ k : Nat) : Int) = (z : Int) := by
        rw [← hz, hb]; exact i64_or_nat u _ (by omega) (by omega)
      obtain ⟨b, hbb⟩ : ∃ b, 2 ^ k = b := ⟨_, rfl⟩
      rw [hbb] at hw hor
      have h0 : (0 : Int) ≤ (k : Int) := by omega
      have h6 : (k : Int) < 6 := by omega
      clear hb hk64 hz hin hbb hu64
      go_wp2_with fail
      obtain ⟨g1, rfl⟩ : ∃ g1, gk = g1 + 1 := ⟨gk - 1, by omega⟩
      go_roundg g1
      case rel => exact Lib.hid ⟨j + 1, by go_num, by omega, by rw [HU.out], HF.out⟩
      all_goals omega
    · have hb : bitI x = 0 := by unfold bitI; rw [if_neg hin]
      have HZ : Hid (u = z) := Lib.hid (by rw [← hz, hb, Nat.or_zero])
      clear hb hz hu64
      have hcase : (x < 0 ∧ (decide ((0 : Int) ≤ x)) = false) ∨ ((0 : Int) ≤ x ∧ ¬ x < 6) := by
        rcases Int.lt_or_le x 0 with h | h
        · exact .inl ⟨h, decide_eq_false (by omega)⟩
        · exact .inr ⟨h, by omega⟩
      clear hin
      rcases hcase with ⟨h1, h2⟩ | ⟨h1, h2⟩
      all_goals
        go_wp2_with fail
        obtain ⟨g1, rfl⟩ : ∃ g1, gk = g1 + 1 := ⟨gk - 1, by omega⟩
        go_roundg g1
        case rel => exact Lib.hid ⟨j + 1, by go_num, by omega, by rw [HU.out, HZ.out], HF.out⟩
        all_goals omega
  · have hji : (n : Int) ≤ (j : Int) := by omega
    have HT : Hid (l.take j = l) := Lib.hid (List.take_of_length_le (by rw [HN.out]; omega))
    have HF := Lib.hid hf
    clear hf
    go_wp2_with fail
    go_ret
    exact ⟨by rw [HT.out]; rfl, HF.out⟩
set_option maxRecDepth 100000 in
theorem rbit_any (k : Nat) (hk : k < 6) (w : World) : Calls Tryz.prog 105 #[.int .i64 (k : Int)] w (TellsI ((2 ^ k : Nat) : Int) w) := by
  go_enter Tryz.func105, Tryz.ntmps105
  go_wp2_with fail
  go_loopg [3, 4] k (fun g r3 r4 wr => Hid (∃ j p : Nat, r4 = .int .i64 (j : Nat) ∧ j + g = k ∧ r3 = .int .i64 (p : Int) ∧ p = 2 ^ j ∧ Fr No w wr))
  case atStart => exact Lib.hid ⟨0, 1, rfl, by omega, rfl, rfl, Fr.refl _ _⟩
  case round =>
  obtain ⟨j, p, rfl, hjk, rfl, hp, hf⟩ := hrel.out
  clear hrel
  have hp64 : p < 128 := by rw [hp]; exact Nat.lt_of_lt_of_le (Nat.pow_lt_pow_right (by decide) (show j < 7 by omega)) (by decide)
  have HF := Lib.hid hf
  have HP := Lib.hid hp
  clear hf hp
  by_cases hj : j < k
  · have hji : (j : Int) < (k : Int) := by omega
    go_wp2_with fail
    obtain ⟨g1, rfl⟩ : ∃ g1, gk = g1 + 1 := ⟨gk - 1, by omega⟩
    go_roundg g1
    case rel => exact Lib.hid ⟨j + 1, p * 2, by go_num, by omega, by go_num, by rw [HP.out, Nat.pow_succ], HF.out⟩
    all_goals omega
  · have hji : (k : Int) ≤ (j : Int) := by omega
    have HT : Hid (p = 2 ^ k) := Lib.hid (by rw [HP.out, show j = k by omega])
    go_wp2_with fail
    go_ret
    exact ⟨by rw [HT.out]; rfl, HF.out⟩
def hasB (s k : Nat) : Bool := s / 2 ^ k % 2 == 1
set_option maxRecDepth 100000 in
theorem has_any (s k : Nat) (hs : s < 64) (hk : k < 6) (w : World) : Calls Tryz.prog 80 #[.int .i64 (s : Int), .int .i64 (k : Int)] w (TellsB (hasB s k) w) := by
  have HB := Lib.hid (rbit_any k hk w)
  obtain ⟨b, hb⟩ : ∃ b, 2 ^ k = b := ⟨_, rfl⟩
  have hb0 : 0 < b := by rw [← hb]; exact Nat.pow_pos (by decide)
  have hb64 : b < 64 := by rw [← hb]; exact Nat.lt_of_lt_of_le (Nat.pow_lt_pow_right (by decide) hk) (by decide)
  rw [hb] at HB
  unfold hasB
  rw [hb]
  obtain ⟨q, hq⟩ : ∃ q, s / b = q := ⟨_, rfl⟩
  have hq64 : q < 64 := by rw [← hq]; exact Nat.lt_of_le_of_lt (Nat.div_le_self _ _) hs
  have hdiv : Int.tdiv (s : Int) (b : Int) = (q : Int) := by rw [← hq]; rfl
  have hdm : Int.tmod (q : Int) 2 = ((q % 2 : Nat) : Int) := rfl
  have hbne : ((b : Int) == 0) = false := by simp; omega
  rw [hq]
  obtain ⟨m, hm⟩ : ∃ m, q % 2 = m := ⟨_, rfl⟩
  rw [hm] at hdm ⊢
  have HV : Hid ((m == 1) = decide ((m : Int) = 1)) := Lib.hid (by rw [Bool.eq_iff_iff]; simp; omega)
  clear hb hq hm
  go_enter Tryz.func80, Tryz.ntmps80
  go_wp2_with (go_at_call 105; refine HB.out.mono ?_; rintro e w1 ⟨rfl, f1⟩; have HF1 := Lib.hid f1; clear f1)
  go_ret
  exact ⟨ret_bool (by rw [HV.out]; rfl), HF1.out⟩
theorem Grow.empty {α : Type} (b e size : Nat) (E : EG α) (w : World) (hb : b ≤ w.heap.size) (x : Array Value) (hx : x = #[]) : Grow b e size E (w.alloc (.cells x e)) (.slice (some ⟨w.heap.size, 0, none⟩) 0 0) [] := by
  subst hx
  refine ⟨fun _ => False, [], ⟨by simp, .inr ⟨w.heap.size, 0, #[], rfl, hb, heap_alloc_new w _, Nat.le_refl _, by decide, by simp, by simp⟩⟩, fun j hj => absurd hj (by simp), fun k hk => hk.elim⟩
theorem Grow.nil_ {α : Type} (b e size : Nat) (E : EG α) (w : World) : Grow b e size E w (.slice none 0 0) [] := by
  refine ⟨fun _ => False, [], ⟨by simp, .inl ⟨rfl, rfl⟩⟩, fun j hj => absurd hj (by simp), fun k hk => hk.elim⟩
/-- One more in a row of one-cell elements; the row lies in blocks from b on. -/
theorem Grow.push {α : Type} {b e bytes : Nat} {E : EG α} (hE : Elem E) {w0 w : World} {v : Value} {l : List α} (hg : Grow b e 1 E w v l) (hb : b = w0.heap.size) (hf : Fr No w0 w)
    (t : TypeId) (ht : Tryz.prog.underlying t = some (.slice e)) (z : Value) (hinfo : (Tryz.prog.info? e).map (fun i => (i.zero, i.size, i.bytes)) = some (some z, 1, bytes)) (hzs : z.cells.size = 1)
    (x : α) (u : Value) (hone : u.oneCell' = true) (hx : E (fun k => w.heap.size ≤ k) w x [u]) (hlen : (l.length + 1) * bytes ≤ 140737488355328) (hmax : l.length + 1 ≤ maxLen) :
    ∃ A c w', (∀ ty, (Builtin.append_ #[t, t] ty #[v, .slice (some ⟨w.heap.size, 0, none⟩) 1 1]).run Tryz.prog (w.alloc (.cells #[u] e)) = .ok (.slice A (l.length + 1) c) w') ∧ Grow b e 1 E w' (.slice A (l.length + 1) c) (l ++ [x]) ∧ Fr No w0 w' ∧ Fr (fun k => v.ownBlock = some k) w w' ∧ ∀ k, (Value.slice A (l.length + 1) c).ownBlock = some k → v.ownBlock = some k ∨ w.heap.size ≤ k := by
  obtain ⟨A, c, w', hrun, hg', hf', hlt⟩ := Grow.more (bytes := bytes) hE (w0 := w) hg (by rw [hb]; exact hf.size) (Nat.le_refl _) (fun k hk => (hg.lt k hk).2) t ht z hinfo hzs (by decide) x [u] rfl (by simp [hone]) hx hlen hmax
  refine ⟨A, c, w', hrun, hg', ?_, hf', fun k hk => (hlt k hk).2⟩
  refine ⟨hf'.os.trans hf.os, hf'.tape.trans hf.tape, hf'.output.trans hf.output, Nat.le_trans hf.size hf'.size, fun k hk _ => ?_⟩
  rw [← hf.block k hk id]
  refine hf'.block k (Nat.lt_of_lt_of_le hk hf.size) fun e1 => ?_
  have := (hg.lt k e1).1
  omega
/-- A call that tells a row of one's own. -/
def TellsR {α : Type} (size : Nat) (E : EG α) (l : List α) (w : World) (e : Ending) (w' : World) : Prop :=
  ∃ v, e = .returned v ∧ RowE (fun k => w.heap.size ≤ k) w' size (E (fun k => w.heap.size ≤ k) w') v l ∧ Fr No w w'
theorem Grow.tells {α : Type} {b e size : Nat} {E : EG α} (hE : Elem E) {w0 w : World} {v : Value} {l : List α} (hg : Grow b e size E w v l) (hb : b = w0.heap.size) (hf : Fr No w0 w) : TellsR size E l w0 (.returned v) w :=
  ⟨v, rfl, by have := hg.row hE; rw [hb] at this; exact this, hf⟩

def listN (s n : Nat) : List Nat := (List.range n).filter fun d => hasB s d
theorem listN_succ (s n : Nat) : listN s (n + 1) = listN s n ++ (if hasB s n then [n] else []) := by
  unfold listN
  rw [List.range_succ, List.filter_append]
  congr 1
  cases h : hasB s n <;> simp [h]
theorem listN_len (s : Nat) : ∀ n, (listN s n).length ≤ n
  | 0 => Nat.le_refl _
  | n + 1 => by
    rw [listN_succ, List.length_append]
    have := listN_len s n
    split <;> simp <;> omega
theorem listB_in {s : Nat} (h : s < 64) : listB (s : Int) = listN s 6 := by
  unfold listB listN
  rw [if_pos (by omega)]
  congr 1
theorem listB_out {s : Int} (h : s < 0 ∨ 64 ≤ s) : listB s = [] := by
  unfold listB
  rw [if_neg (by omega)]
set_option maxRecDepth 100000 in
theorem list_in (s : Nat) (hs : s < 64) (w : World) : Calls Tryz.prog 46 #[.int .i64 (s : Int)] w (TellsR 1 natG (listN s 6) w) := by
  obtain ⟨B, hB⟩ : ∃ B, w.heap.size = B := ⟨_, rfl⟩
  have HS := Lib.hid hs
  have hlt : (s : Int) < 64 := by omega
  obtain ⟨w1, hw1⟩ : ∃ w1, w.alloc (.cells #[] 3) = w1 := ⟨_, rfl⟩
  have HF1 : Hid (Fr No w w1) := Lib.hid (by rw [← hw1]; exact (Fr.refl No w).alloc _)
  have HG1 : Hid (Grow B 3 1 natG w1 (.slice (some ⟨B, 0, none⟩) 0 0) (listN s 0)) := Lib.hid (by rw [← hw1, ← hB]; exact Grow.empty _ 3 1 natG w (Nat.le_refl _) #[] rfl)
  have HW1 := Lib.hid hw1
  have HB := Lib.hid hB
  clear hw1 hB
  go_enter Tryz.func46, Tryz.ntmps46
  go_upto_region 4 with fail
  rw [HW1.out, HB.out]
  go_wp2_with fail
  go_loopg [3, 4, 12] 6 (fun g r3 r4 r12 wr => Hid (∃ (j n : Nat) (A : Option Addr) (c : Nat), r12 = .int .i64 (j : Nat) ∧ j + g = 6 ∧ r3 = .slice A n c ∧ n = (listN s j).length ∧ Grow B 3 1 natG wr (.slice A n c) (listN s j) ∧ Fr No w wr))
  case atStart => exact Lib.hid ⟨0, 0, _, _, rfl, by omega, rfl, rfl, HG1.out, HF1.out⟩
  case round =>
  obtain ⟨j, n, A, c, rfl, hj6, rfl, hn, hg, hf⟩ := hrel.out
  clear hrel
  have HN := Lib.hid hn
  have HG := Lib.hid hg
  have HF := Lib.hid hf
  by_cases hj : j < 6
  · have hji : (j : Int) < 6 := by omega
    obtain ⟨q, hq⟩ : ∃ q, s / 2 ^ j = q := ⟨_, rfl⟩
    have hq64 : q < 64 := by rw [← hq]; exact Nat.lt_of_le_of_lt (Nat.div_le_self _ _) hs
    have hdiv : (s : Int) / (2 : Int) ^ j = (q : Int) := by rw [← hq]; simp
    have hand := i64_and1 q (by omega)
    obtain ⟨m, hm⟩ : ∃ m, q % 2 = m := ⟨_, rfl⟩
    rw [hm] at hand
    have HH : Hid (hasB s j = (m == 1)) := Lib.hid (by unfold hasB; rw [hq, hm])
    have HL := Lib.hid (listN_succ s j)
    have hm2 : m = 0 ∨ m = 1 := by omega
    have hnl : n ≤ 6 := by rw [hn]; have := listN_len s j; omega
    clear hn hf hq hm
    rcases hm2 with rfl | rfl
    · clear hg
      have HT : Hid (listN s (j + 1) = listN s j) := Lib.hid (by rw [HL.out, HH.out]; exact List.append_nil _)
      go_wp2_with fail
      obtain ⟨g1, rfl⟩ : ∃ g1, gk = g1 + 1 := ⟨gk - 1, by omega⟩
      go_roundg g1
      case rel => exact Lib.hid ⟨j + 1, n, A, c, by go_num, by omega, rfl, by rw [HT.out]; exact HN.out, by rw [HT.out]; exact HG.out, HF.out⟩
      all_goals omega
    · have HT : Hid (listN s (j + 1) = listN s j ++ [j]) := Lib.hid (by rw [HL.out, HH.out]; rfl)
      obtain ⟨A', c', w6, hrun, hg6, hf6, _⟩ := Grow.push (bytes := 8) natG_elem hg HB.out.symm HF.out 53 Tryz.underlying53 (.int .i64 0) (by kernel_rfl) rfl j (.int .i64 j) rfl rfl (by rw [← HN.out]; omega) (by rw [← HN.out]; unfold maxLen; omega)
      rw [← HN.out] at hrun hg6
      have HRUN := Lib.hid hrun
      have HG6 := Lib.hid hg6
      have HF6 := Lib.hid hf6
      clear hg hrun hg6 hf6
      go_wp2_with (at_builtin; refine wpList_add rfl _ _ _ _ rfl _ _ _ _ rfl rfl (HRUN.out _) ?_)
      obtain ⟨g1, rfl⟩ : ∃ g1, gk = g1 + 1 := ⟨gk - 1, by omega⟩
      go_roundg g1
      case rel => exact Lib.hid ⟨j + 1, n + 1, A', c', by go_num, by omega, rfl, by rw [HT.out, List.length_append, ← HN.out]; rfl, by rw [HT.out]; exact HG6.out, HF6.out⟩
      all_goals omega
  · have hji : (6 : Int) ≤ (j : Int) := by omega
    have HT : Hid (listN s j = listN s 6) := Lib.hid (by rw [show j = 6 by omega])
    clear hn hg hf
    go_wp2_with fail
    go_ret
    have := HG.out.tells natG_elem HB.out.symm HF.out
    rw [HT.out] at this
    exact this
set_option maxRecDepth 100000 in
theorem list_out (s : Int) (hs : s < 0 ∨ 64 ≤ s) (w : World) : Calls Tryz.prog 46 #[.int .i64 s] w (TellsR 1 natG [] w) := by
  have HE : Hid (TellsR 1 natG [] w (.returned (.slice none 0 0)) w) := Lib.hid ⟨_, rfl, RowE.nil _ _ _ _, Fr.refl _ _⟩
  rcases Int.lt_or_le s 0 with h | h
  · clear hs
    go_enter Tryz.func46, Tryz.ntmps46
    go_wp2_with fail
    go_ret
    exact HE.out
  · have h2 : (64 : Int) ≤ s := by omega
    clear hs
    go_enter Tryz.func46, Tryz.ntmps46
    go_wp2_with fail
    go_ret
    exact HE.out
theorem list_any (s : Int) (w : World) : Calls Tryz.prog 46 #[.int .i64 s] w (TellsR 1 natG (listB s) w) := by
  by_cases h : 0 ≤ s ∧ s < 64
  · obtain ⟨k, rfl⟩ := Int.eq_ofNat_of_zero_le h.1
    rw [listB_in (by omega)]
    exact list_in k (by omega) w
  · rw [listB_out (by omega)]
    exact list_out s (by omega) w
set_option maxRecDepth 100000 in
theorem rlist_in (s : Nat) (hs : s < 64) (w : World) : Calls Tryz.prog 52 #[.int .i64 (s : Int)] w (TellsR 1 natG (listN s 6) w) := by
  obtain ⟨B, hB⟩ : ∃ B, w.heap.size = B := ⟨_, rfl⟩
  have HC : Hid (∀ (k : Nat) (w : World), k < 6 → Calls Tryz.prog 80 #[.int .i64 (s : Int), .int .i64 (k : Int)] w (TellsB (hasB s k) w)) := Lib.hid fun k w hk => has_any s k hs hk w
  have hlt : (s : Int) < 64 := by omega
  have HG1 : Hid (Grow B 3 1 natG w (.slice none 0 0) (listN s 0)) := Lib.hid (Grow.nil_ _ 3 1 natG w)
  have HB := Lib.hid hB
  clear hB
  go_enter Tryz.func52, Tryz.ntmps52
  go_wp2_with fail
  go_loopg [3, 4, 5] 6 (fun g r3 r4 r5 wr => Hid (∃ (j n : Nat) (A : Option Addr) (c : Nat), r4 = .int .i64 (j : Nat) ∧ j + g = 6 ∧ r3 = .slice A n c ∧ n = (listN s j).length ∧ Grow B 3 1 natG wr (.slice A n c) (listN s j) ∧ Fr No w wr))
  case atStart => exact Lib.hid ⟨0, 0, _, _, rfl, by omega, rfl, rfl, HG1.out, Fr.refl _ _⟩
  case round =>
  obtain ⟨j, n, A, c, rfl, hj6, rfl, hn, hg, hf⟩ := hrel.out
  clear hrel
  have HN := Lib.hid hn
  have HG := Lib.hid hg
  have HF := Lib.hid hf
  by_cases hj : j < 6
  · have hji : (j : Int) < 6 := by omega
    have HC1 := Lib.hid (HC.out j wr hj)
    have HL := Lib.hid (listN_succ s j)
    have hnl : n ≤ 6 := by rw [hn]; have := listN_len s j; omega
    clear hn hf hg
    go_wp2_with fail
    refine HC1.out.mono ?_
    rintro e w1 ⟨rfl, f1⟩
    have HF1 := Lib.hid (HF.out.trans f1 fun _ _ h => h)
    have HG1 := Lib.hid (HG.out.keep natG_elem f1 fun _ h => h.elim)
    clear f1
    obtain ⟨x, hx⟩ : ∃ x, hasB s j = x := ⟨_, rfl⟩
    have HH := Lib.hid hx
    rw [hx]
    clear hx
    cases x with
    | false =>
      have HT : Hid (listN s (j + 1) = listN s j) := Lib.hid (by rw [HL.out, HH.out]; exact List.append_nil _)
      go_wp2_with fail
      obtain ⟨g1, rfl⟩ : ∃ g1, gk = g1 + 1 := ⟨gk - 1, by omega⟩
      go_roundg g1
      case rel => exact Lib.hid ⟨j + 1, n, A, c, by go_num, by omega, rfl, by rw [HT.out]; exact HN.out, by rw [HT.out]; exact HG1.out, HF1.out⟩
      all_goals omega
    | true =>
      have HT : Hid (listN s (j + 1) = listN s j ++ [j]) := Lib.hid (by rw [HL.out, HH.out]; rfl)
      obtain ⟨A', c', w6, hrun, hg6, hf6, _⟩ := Grow.push (bytes := 8) natG_elem HG1.out HB.out.symm HF1.out 53 Tryz.underlying53 (.int .i64 0) (by kernel_rfl) rfl j (.int .i64 j) rfl rfl (by rw [← HN.out]; omega) (by rw [← HN.out]; unfold maxLen; omega)
      rw [← HN.out] at hrun hg6
      have HRUN := Lib.hid hrun
      have HG6 := Lib.hid hg6
      have HF6 := Lib.hid hf6
      clear hrun hg6 hf6
      go_wp2_with (at_builtin; refine wpList_add rfl _ _ _ _ rfl _ _ _ _ rfl rfl (HRUN.out _) ?_)
      obtain ⟨g1, rfl⟩ : ∃ g1, gk = g1 + 1 := ⟨gk - 1, by omega⟩
      go_roundg g1
      case rel => exact Lib.hid ⟨j + 1, n + 1, A', c', by go_num, by omega, rfl, by rw [HT.out, List.length_append, ← HN.out]; rfl, by rw [HT.out]; exact HG6.out, HF6.out⟩
      all_goals omega
  · have hji : (6 : Int) ≤ (j : Int) := by omega
    have HT : Hid (listN s j = listN s 6) := Lib.hid (by rw [show j = 6 by omega])
    clear hn hg hf
    go_wp2_with fail
    go_ret
    have := HG.out.tells natG_elem HB.out.symm HF.out
    rw [HT.out] at this
    exact this
set_option maxRecDepth 100000 in
theorem rlist_out (s : Int) (hs : s < 0 ∨ 64 ≤ s) (w : World) : Calls Tryz.prog 52 #[.int .i64 s] w (TellsR 1 natG [] w) := by
  have HE : Hid (TellsR 1 natG [] w (.returned (.slice none 0 0)) w) := Lib.hid ⟨_, rfl, RowE.nil _ _ _ _, Fr.refl _ _⟩
  rcases Int.lt_or_le s 0 with h | h
  · have h2 : (decide ((0 : Int) ≤ s)) = false := decide_eq_false (by omega)
    clear hs
    go_enter Tryz.func52, Tryz.ntmps52
    go_wp2_with fail
    refine wp_loop_rounds 1 ?_
    rw [rounds_succ]
    go_wp2_with fail
    go_ret
    exact HE.out
  · have h2 : (64 : Int) ≤ s := by omega
    clear hs
    go_enter Tryz.func52, Tryz.ntmps52
    go_wp2_with fail
    refine wp_loop_rounds 1 ?_
    rw [rounds_succ]
    go_wp2_with fail
    go_ret
    exact HE.out
theorem rlist_any (s : Int) (w : World) : Calls Tryz.prog 52 #[.int .i64 s] w (TellsR 1 natG (listB s) w) := by
  by_cases h : 0 ≤ s ∧ s < 64
  · obtain ⟨k, rfl⟩ := Int.eq_ofNat_of_zero_le h.1
    rw [listB_in (by omega)]
    exact rlist_in k (by omega) w
  · rw [listB_out (by omega)]
    exact rlist_out s (by omega) w

def namesL (l : List Tx) (d : List Nat) : List Tx := d.filterMap fun i => l[i]?
theorem namesL_step {l : List Tx} {d : List Nat} {j : Nat} (h : j < d.length) : namesL l (d.take (j + 1)) = namesL l (d.take j) ++ (match l[d[j]]? with | some t => [t] | none => []) := by
  rw [take_succ h]
  unfold namesL
  rw [List.filterMap_append]
  congr 1
  cases hx : l[d[j]]? <;> simp [hx]
theorem namesL_len (l : List Tx) (d : List Nat) : (namesL l d).length ≤ d.length := List.length_filterMap_le _ _
theorem listB_len (s : Int) : (listB s).length ≤ 6 := by
  by_cases h : 0 ≤ s ∧ s < 64
  · obtain ⟨k, rfl⟩ := Int.eq_ofNat_of_zero_le h.1
    rw [listB_in (by omega)]
    exact listN_len k 6
  · rw [listB_out (by omega)]; simp

end Go.Proofs.YtlpglijikmnopaaGreatDoor
