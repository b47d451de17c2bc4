/- Settle, Rename, Remove, List, New: by contract. -/
import Derived.Test.YtccjkolcmdhliaaGreatDoorM1
namespace Go.Proofs.YtccjkolcmdhliaaGreatDoor
open Go.RowKit Go.Maps Go.Sort
set_option linter.unusedVariables false

set_option maxHeartbeats 400000 in
theorem check_zero (d : Nat) (w : World) (hon : w.cell? ⟨d, 1, none⟩ = some (.bool true)) :
    Calls Tryz.prog 74 #[.pointer (some ⟨d, 0, none⟩), .slice none 0 0] w fun e w' => e = .returned (.int .i64 0) ∧ w = w' := by
  go_enter Tryz.func74, Tryz.ntmps74
  go_wp2
  refine wp_loop_rounds 1 ?_
  rw [rounds_succ]
  go_wp2
  go_ret
  exact ⟨rfl, rfl⟩

/-! ### Settle -/
set_option maxHeartbeats 400000 in
theorem settle_off (d : Nat) (w : World) (hon : w.cell? ⟨d, 1, none⟩ = some (.bool false)) :
    Calls Tryz.prog 30 #[.pointer (some ⟨d, 0, none⟩)] w fun e w' => e = .returned (.int .i64 13) ∧ w = w' := by
  have hcon := check_off d (.bool true) 0 0 none w hon
  clear hon
  go_enter Tryz.func30, Tryz.ntmps30
  go_wp2_with fail
  refine hcon.mono ?_
  rintro e w' ⟨rfl, rfl⟩
  go_wp2
  go_ret
  exact ⟨rfl, rfl⟩

set_option maxHeartbeats 400000 in
theorem settle_out (d : Nat) (R : Rp) (S : AS) (w : World) (h : At w d R S) (hl : S.left ≤ 9223372036854775807) (hon : S.on = true) (he : S.stepE = 13) :
    Calls Tryz.prog 30 #[.pointer (some ⟨d, 0, none⟩)] w fun e w' => e = .returned (.int .i64 13) ∧ PR d R S w R S.step w' := by
  have c1 := (cells_all h).2.1
  rw [hon] at c1
  have hcon := check_zero d w c1
  have hst := step_ok d R S w h hl 13 he
  clear c1 hon he
  go_enter Tryz.func30, Tryz.ntmps30
  go_wp2_with fail
  refine hcon.mono ?_
  rintro e w' ⟨rfl, rfl⟩
  go_wp2_with fail
  refine hst.mono ?_
  rintro e w2 ⟨rfl, h2, f2⟩
  have P2 := (PR.own h2 f2 (step_same S).2.2.2.1 : PR d R S w R S.step w2)
  clear h2 f2 hst hcon h
  go_wp2
  go_ret
  exact ⟨rfl, P2⟩

set_option maxHeartbeats 400000 in
theorem settle_ok (d : Nat) (R : Rp) (S : AS) (w : World) (h : At w d R S) (hW : WF S) (hsz : Maps.size S.names ≤ 1000000) (hon : S.on = true) (he : S.stepE = 0) :
    Calls Tryz.prog 30 #[.pointer (some ⟨d, 0, none⟩)] w fun e w' => e = .returned (.int .i64 0) ∧ Post d R S w S.step.settled w' := by
  have c1 := (cells_all h).2.1
  rw [hon] at c1
  have hcon := check_zero d w c1
  have hst := step_ok d R S w h hW.left.2 0 he
  obtain ⟨nb, fb, e1, e2⟩ := h.onn hon
  have hset := fun w2 (h2 : At w2 d R S.step) => settle_any d R S.step nb w2 h2 (by rw [(step_same S).1, (step_same S).2.2.2.1]; exact hW.ref) e1 (by rw [(step_same S).1]; exact hsz)
  have HSET := Lib.hid hset
  clear c1 hon he hset e1 e2 hsz hW
  go_enter Tryz.func30, Tryz.ntmps30
  go_wp2_with fail
  refine hcon.mono ?_
  rintro e w' ⟨rfl, rfl⟩
  go_wp2_with fail
  refine hst.mono ?_
  rintro e w2 ⟨rfl, h2, f2⟩
  have P2 := (PR.own h2 f2 (step_same S).2.2.2.1 : PR d R S w R S.step w2)
  have HP2 := Lib.hid P2
  clear h2 f2 hst hcon h P2
  go_wp2_with fail
  refine (HSET.out w2 HP2.out.at_).mono ?_
  rintro e w3 ⟨rfl, R3, P3, hx⟩
  have P4 := HP2.out.trans P3
  clear P3 hx HSET HP2
  go_wp2
  go_ret
  exact ⟨rfl, R3, P4⟩

/-! ### Remove -/
def AS.removed (S : AS) (l : List UInt8) : AS := S.altered { frm := l, to := [], file := 0 }

set_option maxHeartbeats 400000 in
theorem remove_err (d : Nat) (l : List UInt8) (v : Option Addr) (E : Int) (w : World) (hE : E ≠ 0)
    (hfind : Calls Tryz.prog 79 #[.pointer (some ⟨d, 0, none⟩), .string ⟨l.toArray⟩] w fun e w' => e = .returned (.tuple #[.pointer v, .int .i64 E]) ∧ Fr No w w') :
    Calls Tryz.prog 253 #[.pointer (some ⟨d, 0, none⟩), .string ⟨l.toArray⟩] w fun e w' => e = .returned (.int .i64 E) ∧ Fr No w w' := by
  have hne2 : (E != 0) = true := by simpa using hE
  go_enter Tryz.func253, Tryz.ntmps253
  go_wp2_with fail
  refine hfind.mono ?_
  rintro e w' ⟨rfl, hf⟩
  have HF := Lib.hid hf; clear hf hfind
  go_wp2
  go_ret
  exact ⟨rfl, HF.out⟩

set_option maxHeartbeats 400000 in
theorem remove_some (d : Nat) (R : Rp) (S : AS) (l : List UInt8) (n : Int) (r : FR) (w : World) (h : At w d R S) (hW : WF S) (hl : l.length ≤ maxLen) (hE : checkOf S.on [l] = 0) (hn : look S.names l = some n) (hr : S.file n = some r) (hsz : Maps.size S.names ≤ 1000000) (hll : S.loose.length < 3000000000000) :
    Calls Tryz.prog 253 #[.pointer (some ⟨d, 0, none⟩), .string ⟨l.toArray⟩] w fun e w' => e = .returned (.int .i64 (S.removed l).stepE) ∧ Post d R S w (S.removed l).step w' := by
  have hcon := find_some d R S l n r w h hl hE hn hr (hW.wf hr)
  obtain ⟨nb, fb, e1, e2⟩ := h.onn (on_of hE)
  have hal := fun w1 (h1 : At w1 d R S) => alter_any d R S { frm := l, to := [], file := 0 } nb w1 h1 e1 hl (by simp [maxLen]) (by unfold maxLen; omega) (show (Lit.int .i64 0).wf = true by decide) hll
  have hst := fun R' w2 (h2 : At w2 d R' (S.removed l)) => step_any d R' (S.removed l) w2 h2 hW.left.2
  have HAL := Lib.hid hal
  have HST := Lib.hid hst
  clear hal hst hE hn hr hW hsz hll hl e1 e2
  go_enter Tryz.func253, Tryz.ntmps253
  go_wp2_with fail
  refine hcon.mono ?_
  rintro e w1 ⟨rfl, hf⟩
  have P1 := PR.same h hf
  clear hcon h hf
  go_wp2_with fail
  refine (HAL.out w1 P1.at_).mono ?_
  rintro e w2 ⟨rfl, R2, P2⟩
  have P3 := P1.trans P2
  clear P1 P2 HAL
  go_wp2_with fail
  refine (HST.out R2 w2 P3.at_).mono ?_
  rintro e w3 ⟨rfl, h3, f3⟩
  have P4 := P3.trans (PR.own h3 f3 (step_same _).2.2.2.1)
  clear P3 h3 f3 HST
  go_wp2
  go_ret
  exact ⟨rfl, R2, P4⟩

/-! ### List -/
theorem list_nil (w : World) : Calls Tryz.prog 44 #[.pointer none] w fun e w' => e = .returned (.slice none 0 0) ∧ w = w' := by
  go_enter Tryz.func44, Tryz.ntmps44
  go_wp2_with (go_at_call 49; refine (on_nil _).mono ?_; rintro e w' ⟨rfl, rfl⟩)
  go_ret
  exact ⟨rfl, rfl⟩
theorem list_off (d : Nat) (R : Rp) (S : AS) (w : World) (h : At w d R S) (hon : S.on = false) : Calls Tryz.prog 44 #[.pointer (some ⟨d, 0, none⟩)] w fun e w' => e = .returned (.slice none 0 0) ∧ w = w' := by
  have hcon := on_any d R S w h
  rw [hon] at hcon
  clear h hon
  go_enter Tryz.func44, Tryz.ntmps44
  go_wp2_with (go_at_call 49; refine hcon.mono ?_; rintro e w' ⟨rfl, rfl⟩)
  go_ret
  exact ⟨rfl, rfl⟩
set_option maxHeartbeats 400000 in
theorem list_on (d : Nat) (R : Rp) (S : AS) (w : World) (h : At w d R S) (hon : S.on = true) (hsz : Maps.size S.names ≤ 1000000) :
    Calls Tryz.prog 44 #[.pointer (some ⟨d, 0, none⟩)] w fun e w' => ∃ A c, e = .returned (.slice A (sortedKeys S.names).length c) ∧ w'.ownsRow w.heap.size 9 1 (.slice A (sortedKeys S.names).length c) (sortedKeys S.names).length ((sortedKeys S.names).map encStr) ∧ Fr No w w' := by
  have hcon := on_any d R S w h
  rw [hon] at hcon
  obtain ⟨nb, fb, e1, e2⟩ := h.onn hon
  have c5 := (cells_all h).2.2.2.2.2.1
  rw [e1] at c5
  have hnm := h.names
  rw [e1] at hnm
  have hs := sorted_any nb _ S.names (plainElem Tryz.prog 3) w hnm (by unfold maxLen; omega) (by omega)
  have HS := Lib.hid hs
  clear h hon hsz e1 e2 hnm hs
  go_enter Tryz.func44, Tryz.ntmps44
  go_wp2_with (go_at_call 49; refine hcon.mono ?_; rintro e w' ⟨rfl, rfl⟩)
  refine HS.out.mono ?_
  rintro e w2 ⟨v, ss, rfl, hperm, hrow, hnil, hb⟩
  have hkeys : ss.mergeSort (fun x y => decide (x ≤ y)) = sortedKeys S.names := mergeSort_of_perm hperm
  have hlen : ss.length = (sortedKeys S.names).length := by rw [← hkeys, List.length_mergeSort]
  rw [hkeys, hlen] at hrow
  obtain ⟨A, c, rfl⟩ := len_row hrow
  have HR := Lib.hid hrow
  have HB := Lib.hid hb
  clear hperm hrow hnil hb hkeys hlen HS hcon c5
  go_wp2
  go_ret
  exact ⟨A, c, rfl, HR.out, Fr.of_below HB.out⟩


/-! ### Rename -/
def AS.renamed (S : AS) (a b : List UInt8) (n : Int) : AS := S.altered { frm := a, to := b, file := n }

theorem check_new2 (d : Nat) (R : Rp) (S : AS) (a b : List UInt8) (E : Int) (w : World) (h : At w d R S) (hE : checkOf S.on [a, b] = E) (ha : a.length ≤ maxLen) (hb : b.length ≤ maxLen) :
    Calls Tryz.prog 74 #[.pointer (some ⟨d, 0, none⟩), .slice (some ⟨w.heap.size, 0, none⟩) 2 2] (w.alloc (.cells #[.string ⟨a.toArray⟩, .string ⟨b.toArray⟩] 9)) fun e w' => e = .returned (.int .i64 E) ∧ w.alloc (.cells #[.string ⟨a.toArray⟩, .string ⟨b.toArray⟩] 9) = w' := by
  refine (check_two d w.heap.size ⟨a.toArray⟩ ⟨b.toArray⟩ _ S.on (cells_all (h.alloc _)).2.1 (by simpa [ByteArray.size] using ha) (by simpa [ByteArray.size] using hb) (by simp) (by simp)).mono ?_
  rintro e w' ⟨he, hw⟩
  exact ⟨by rw [he, ← hE], hw⟩

/-! ### New -/
def AS.new (room : Int) : AS := { room := roomOf room, on := true, armed := false, left := 0, steps := 0, last := 0, names := .map [], firm := .map [], loose := [], file := fun _ => none }

def AS.empty : AS := { room := 0, on := true, armed := false, left := 0, steps := 0, last := 0, names := .map [], firm := .map [], loose := [], file := fun _ => none }
def Rp.new (b : Nat) : Rp := { nm := some b, fm := none, fb := some (b + 1), lv := .slice none 0 0, rc := fun _ => (0, .slice none 0 0), FD := .map [] }
theorem new_mem (w : World) : At (((w.alloc (.map #[] 0)).alloc (.map #[] 0)).alloc (.cells (cellsOf AS.empty (Rp.new w.heap.size)) 84)) (w.heap.size + 1 + 1) (Rp.new w.heap.size) AS.empty ∧
    Fr No w (((w.alloc (.map #[] 0)).alloc (.map #[] 0)).alloc (.cells (cellsOf AS.empty (Rp.new w.heap.size)) 84)) := by
  have s1 : (w.alloc (.map #[] 0)).heap.size = w.heap.size + 1 := by simp
  have s2 : ((w.alloc (.map #[] 0)).alloc (.map #[] 0)).heap.size = w.heap.size + 1 + 1 := by simp
  have m1 := World.ownsMap_made (H := Unit) w Tryz.prog 9 (plainElem Tryz.prog 3)
  have m2 := World.ownsMap_made (H := Unit) (w.alloc (.map #[] 0)) Tryz.prog 3 ptrElem
  rw [s1] at m2
  refine ⟨{
    blk := by have := Blk.new ((w.alloc (.map #[] 0)).alloc (.map #[] 0)) 84 (cellsOf AS.empty (Rp.new w.heap.size)); rw [s2] at this; exact this
    names := (m1.alloc _).alloc _
    firm := rfl
    files := m2.alloc _
    loose := World.ownsRow_nil _ 0 108 3
    fd := fun n => rfl
    ne1 := fun b _ e => by cases e
    ne2 := fun b h e => by
      have h1 := Option.some.inj (show some w.heap.size = some b from h)
      have h2 := Option.some.inj (show some (w.heap.size + 1) = some b from e)
      omega
    ne3 := fun b h e => by cases h
    ap := fun n m r q _ h _ => by cases h
    onn := fun _ => ⟨_, _, rfl, rfl⟩ }, (((Fr.refl _ w).alloc _).alloc _).alloc _⟩

set_option maxHeartbeats 1000000 in
theorem new_any (room : Int) (w : World) :
    Calls Tryz.prog 11 #[.int .i64 room] w fun e w' => ∃ d R, e = .returned (.pointer (some ⟨d, 0, none⟩)) ∧ At w' d R (AS.new room) ∧ Fr No w w' ∧ ∀ k, foot d R (AS.new room) k → w.heap.size ≤ k := by
  have hmm := @run_makeMap Tryz.prog
  go_enter Tryz.func11, Tryz.ntmps11
  go_wp2_with fail
  obtain ⟨h0, f0⟩ := new_mem w
  refine (limit_any _ _ AS.empty room _ h0).mono ?_
  rintro e w' ⟨rfl, h1, f1⟩
  have H1 := Lib.hid h1
  have HF0 := Lib.hid f0
  have HF1 := Lib.hid f1
  clear h0 f0 h1 f1
  go_wp2
  go_ret
  refine ⟨w.heap.size + 1 + 1, Rp.new w.heap.size, rfl, H1.out, HF0.out.trans HF1.out (fun j hj hf => ?_), fun k hk => ?_⟩
  · have : j = w.heap.size + 1 + 1 := hf
    omega
  · rcases hk with hk | hk | hk | hk | hk | ⟨n, r, hr, _⟩
    · omega
    · have := Option.some.inj (show some w.heap.size = some k from hk); omega
    · cases hk
    · have := Option.some.inj (show some (w.heap.size + 1) = some k from hk); omega
    · simp [Rp.new, Value.ownBlock] at hk
    · cases hr

end Go.Proofs.YtccjkolcmdhliaaGreatDoor
/- What every disk keeps, whatever is done to it (no program here: plain lists and numbers). -/
namespace Go.Proofs.YtccjkolcmdhliaaGreatDoor
open Go.RowKit Go.Maps Go.Sort
set_option linter.unusedVariables false

abbrev KO : Lit → Prop := KeysOf Tryz.prog 9
theorem ko_mk {l : List UInt8} (h : l.length ≤ maxLen) : KO (.string l) := ⟨_, key9 l h⟩

/-- A table of names as it may be. -/
structure Good (f : Int → Option FR) (D : DU) : Prop where
  canon : CanonK KO D
  ints : Ints D
  small : Maps.size D ≤ 64
  ref : ∀ l n, look D l = some n → ∃ r, f n = some r
  inj : ∀ l m n, look D l = some n → look D m = some n → l = m
  ok : ∀ l n, look D l = some n → nameOk l = true

theorem nameOk_len {l : List UInt8} (h : nameOk l = true) : 1 ≤ l.length ∧ l.length ≤ 32 := by
  unfold nameOk at h
  simp at h
  omega
theorem nameOk_max {l : List UInt8} (h : nameOk l = true) : l.length ≤ maxLen := by have := nameOk_len h; unfold maxLen; omega

theorem Good.tidy {f : Int → Option FR} {D : DU} (h : Good f D) : Tidy D := by
  obtain ⟨es, e, hp, _⟩ := h.canon
  exact ⟨es, e, apart_of_rising hp⟩
theorem Good.isMap {f : Int → Option FR} {D : DU} (h : Good f D) : IsMap D := h.tidy.isMap
theorem Good.mono {f f' : Int → Option FR} {D : DU} (h : Good f D) (hf : ∀ l n r, look D l = some n → f n = some r → ∃ r', f' n = some r') : Good f' D :=
  ⟨h.canon, h.ints, h.small, fun l n hl => by obtain ⟨r, hr⟩ := h.ref l n hl; exact hf l n r hl hr, h.inj, h.ok⟩
theorem good_empty (f : Int → Option FR) : Good f (.map []) :=
  ⟨⟨[], rfl, List.Pairwise.nil, (by intro p hp; cases hp)⟩, fun s hs => (by simp [has] at hs), (by simp [Maps.size]), fun l n h => (by cases h), fun l m n h => (by cases h), fun l n h => (by cases h)⟩

theorem canonK_del {D : DU} (h : CanonK KO D) (k : Lit) : CanonK KO (D.del k) := by
  obtain ⟨es, rfl, hp, hk⟩ := h
  exact ⟨_, rfl, hp.filter _, fun p hp => hk p (List.mem_filter.1 hp).1⟩

theorem ints_put {D : DU} (h : Ints D) (hm : IsMap D) (l : List UInt8) (n : Int) : Ints (D.put (.string l) (.lit (.int .i64 n))) := by
  intro s hs
  by_cases e : s = l
  · subst e; exact ⟨n, fun z => atKey_put_same hm (isKey s) _ z⟩
  · rw [has_put_other (key_ne e)] at hs
    obtain ⟨c, hc⟩ := h s hs
    exact ⟨c, fun z => by rw [atKey_put_other (key_ne e)]; exact hc z⟩
theorem ints_del {D : DU} (h : Ints D) (l : List UInt8) : Ints (D.del (.string l)) := by
  intro s hs
  by_cases e : s = l
  · subst e; rw [has_del_same] at hs; cases hs
  · rw [has_del_other (key_ne e)] at hs
    obtain ⟨c, hc⟩ := h s hs
    exact ⟨c, fun z => by rw [atKey_del_other (key_ne e)]; exact hc z⟩

/-- A new name for a new file. -/
theorem Good.make {f : Int → Option FR} {D : DU} (h : Good f D) {l : List UInt8} {n : Int} {r : FR} (hl : nameOk l = true) (hn : look D l = none) (hf : f n = none) (hs : Maps.size D < 64) :
    Good (upd f n (some r)) ((Ch.mk [] l n).app D) := by
  have hne : l ≠ [] := by intro e; subst e; simp [nameOk] at hl
  have hno : has D (.string []) = false := by
    rw [has_look h.ints]
    cases hx : look D [] with
    | none => rfl
    | some m => have := h.ok _ _ hx; simp [nameOk] at this
  have e : (Ch.mk [] l n).app D = D.put (.string l) (.lit (.int .i64 n)) := by
    unfold Ch.app; simp only; rw [if_neg hne, del_of_not_has hno]
  rw [e]
  have hm := h.isMap
  have hh : has D (.string l) = false := by rw [has_look h.ints, hn]; rfl
  have hlk : ∀ s m, look (D.put (.string l) (.lit (.int .i64 n))) s = some m → (s = l ∧ m = n) ∨ (s ≠ l ∧ look D s = some m) := by
    intro s m hsm
    by_cases e : s = l
    · subst e; rw [look_put_same hm] at hsm; cases hsm; exact .inl ⟨rfl, rfl⟩
    · rw [look_put_other e] at hsm; exact .inr ⟨e, hsm⟩
  have hnn : ∀ s, look D s ≠ some n := fun s hs => by obtain ⟨r, hr⟩ := h.ref s n hs; rw [hf] at hr; cases hr
  refine ⟨canonK_put law9.one (ko_mk (nameOk_max hl)) _ h.canon, ints_put h.ints hm l n, ?_, ?_, ?_, ?_⟩
  · rw [size_put h.tidy, hh]; simp; omega
  · intro s m hsm
    rcases hlk s m hsm with ⟨_, rfl⟩ | ⟨_, hd⟩
    · exact ⟨r, upd_same _ _ _⟩
    · obtain ⟨q, hq⟩ := h.ref s m hd
      exact ⟨q, by rw [upd_other _ _ (by rintro rfl; rw [hf] at hq; cases hq)]; exact hq⟩
  · intro s t m hs ht
    rcases hlk s m hs with ⟨rfl, rfl⟩ | ⟨_, hd⟩
    · rcases hlk t m ht with ⟨rfl, _⟩ | ⟨_, hd'⟩
      · rfl
      · exact absurd hd' (hnn t)
    · rcases hlk t m ht with ⟨rfl, rfl⟩ | ⟨_, hd'⟩
      · exact absurd hd (hnn s)
      · exact h.inj s t m hd hd'
  · intro s m hs
    rcases hlk s m hs with ⟨rfl, _⟩ | ⟨_, hd⟩
    · exact hl
    · exact h.ok s m hd

/-- A file gets another name. -/
theorem Good.rename {f : Int → Option FR} {D : DU} (h : Good f D) {a b : List UInt8} {n : Int} (hb : nameOk b = true) (ha : look D a = some n) : Good f ((Ch.mk a b n).app D) := by
  have hne : b ≠ [] := by intro e; subst e; simp [nameOk] at hb
  have e : (Ch.mk a b n).app D = (D.del (.string a)).put (.string b) (.lit (.int .i64 n)) := by unfold Ch.app; simp only; rw [if_neg hne]
  rw [e]
  have hm := h.isMap.del (.string a)
  have hlk : ∀ s m, look ((D.del (.string a)).put (.string b) (.lit (.int .i64 n))) s = some m → (s = b ∧ m = n) ∨ (s ≠ b ∧ s ≠ a ∧ look D s = some m) := by
    intro s m hsm
    by_cases e : s = b
    · subst e; rw [look_put_same hm] at hsm; cases hsm; exact .inl ⟨rfl, rfl⟩
    · rw [look_put_other e] at hsm
      by_cases e' : s = a
      · subst e'; rw [look_del_same] at hsm; cases hsm
      · rw [look_del_other e'] at hsm; exact .inr ⟨e, e', hsm⟩
  have hh : has D (.string a) = true := by rw [has_look h.ints, ha]; rfl
  refine ⟨canonK_put law9.one (ko_mk (nameOk_max hb)) _ (canonK_del h.canon _), ints_put (ints_del h.ints a) hm b n, ?_, ?_, ?_, ?_⟩
  · rw [size_put (h.tidy.del _)]
    have := size_del (k := .string a) h.tidy
    rw [hh] at this
    have hs := h.small
    split <;> simp at this <;> omega
  · intro s m hsm
    rcases hlk s m hsm with ⟨_, rfl⟩ | ⟨_, _, hd⟩
    · exact h.ref a m ha
    · exact h.ref s m hd
  · intro s t m hs ht
    rcases hlk s m hs with ⟨rfl, rfl⟩ | ⟨_, h2, hd⟩
    · rcases hlk t m ht with ⟨rfl, _⟩ | ⟨_, h2', hd'⟩
      · rfl
      · exact absurd (h.inj t a m hd' ha) h2'
    · rcases hlk t m ht with ⟨rfl, rfl⟩ | ⟨_, h2', hd'⟩
      · exact absurd (h.inj s a m hd ha) h2
      · exact h.inj s t m hd hd'
  · intro s m hs
    rcases hlk s m hs with ⟨rfl, _⟩ | ⟨_, _, hd⟩
    · exact hb
    · exact h.ok s m hd

/-- A name goes. -/
theorem Good.remove {f : Int → Option FR} {D : DU} (h : Good f D) (a : List UInt8) : Good f ((Ch.mk a [] 0).app D) := by
  have e : (Ch.mk a [] 0).app D = D.del (.string a) := by unfold Ch.app; simp
  rw [e]
  have hlk : ∀ s m, look (D.del (.string a)) s = some m → look D s = some m := by
    intro s m hsm
    by_cases e' : s = a
    · subst e'; rw [look_del_same] at hsm; cases hsm
    · rw [look_del_other e'] at hsm; exact hsm
  refine ⟨canonK_del h.canon _, ints_del h.ints a, ?_, fun s m hs => h.ref s m (hlk s m hs), fun s t m hs ht => h.inj s t m (hlk s m hs) (hlk t m ht), fun s m hs => h.ok s m (hlk s m hs)⟩
  have := size_del (k := .string a) h.tidy
  have hs := h.small
  omega

/-- What every disk keeps: at most so many changes of names ever, N. -/
structure Inv (N : Nat) (S : AS) : Prop where
  left : 0 ≤ S.left ∧ S.left ≤ 9223372036854775807
  room : 0 ≤ S.room ∧ S.room ≤ 16777216
  last : 0 ≤ S.last ∧ S.last ≤ N
  loose : S.loose.length ≤ N
  now : S.names = past S S.loose.length
  good : ∀ k, k ≤ S.loose.length → Good S.file (past S k)
  chs : ∀ c ∈ S.loose, c.frm.length ≤ 32 ∧ c.to.length ≤ 32 ∧ 0 ≤ c.file ∧ c.file ≤ S.last
  file : ∀ n r, S.file n = some r → 1 ≤ n ∧ n ≤ S.last ∧ r.firm ≤ r.bytes.length ∧ r.bytes.length ≤ 16777216

theorem Inv.names {N : Nat} {S : AS} (h : Inv N S) : Good S.file S.names := by
  have := h.good S.loose.length (Nat.le_refl _)
  rw [← h.now] at this
  exact this
theorem Inv.wf {N : Nat} {S : AS} (h : Inv N S) (hN : N ≤ 4611686018427387904) : WF S :=
  ⟨h.left, h.room, by have := h.last; omega, h.names.ref, h.file⟩
theorem Inv.mono {N M : Nat} {S : AS} (h : Inv N S) (hNM : N ≤ M) : Inv M S :=
  ⟨h.left, h.room, by have := h.last; omega, by have := h.loose; omega, h.now, h.good, h.chs, h.file⟩
theorem past_same {S S' : AS} (e1 : S'.firm = S.firm) (e2 : S'.loose = S.loose) (k : Nat) : past S' k = past S k := by unfold past; rw [e1, e2]

/-- Where names, and which files there are, stay. -/
theorem Inv.keep {N : Nat} {S S' : AS} (h : Inv N S) (e1 : S'.names = S.names) (e2 : S'.firm = S.firm) (e3 : S'.loose = S.loose) (e4 : S'.last = S.last)
    (hl : 0 ≤ S'.left ∧ S'.left ≤ 9223372036854775807) (hr : 0 ≤ S'.room ∧ S'.room ≤ 16777216) (hf : ∀ n r, S.file n = some r → ∃ r', S'.file n = some r')
    (hf' : ∀ n r, S'.file n = some r → 1 ≤ n ∧ n ≤ S.last ∧ r.firm ≤ r.bytes.length ∧ r.bytes.length ≤ 16777216) : Inv N S' := by
  refine ⟨hl, hr, by rw [e4]; exact h.last, by rw [e3]; exact h.loose, ?_, ?_, ?_, fun n r hr => by rw [e4]; exact hf' n r hr⟩
  · rw [e1, h.now, e3]; exact (past_same e2 e3 _).symm
  · intro k hk
    rw [past_same e2 e3 k]
    exact (h.good k (by rw [e3] at hk; exact hk)).mono fun l n r _ hr => hf n r hr
  · rw [e3, e4]; exact h.chs

theorem Inv.step {N : Nat} {S : AS} (h : Inv N S) : Inv N S.step := by
  obtain ⟨e1, e2, e3, e4, e5, e6⟩ := step_same S
  exact h.keep e1 e2 e3 e6 (step_left h.left) (by rw [e5]; exact h.room) (fun n r hr => ⟨r, by rw [e4]; exact hr⟩) (by rw [e4]; exact h.file)
theorem Inv.arm {N : Nat} {S : AS} (h : Inv N S) (n : Int) (hn : n ≤ 9223372036854775807) : Inv N (S.arm n) :=
  h.keep rfl rfl rfl rfl ⟨by show 0 ≤ max n 0; omega, by show max n 0 ≤ _; omega⟩ h.room (fun n r hr => ⟨r, hr⟩) h.file
theorem Inv.limit {N : Nat} {S : AS} (h : Inv N S) (n : Int) : Inv N (S.limit n) :=
  h.keep rfl rfl rfl rfl h.left (by show 0 ≤ roomOf n ∧ roomOf n ≤ 16777216; unfold roomOf; omega) (fun n r hr => ⟨r, hr⟩) h.file
/-- One file's bytes turn. -/
theorem Inv.turn {N : Nat} {S : AS} (h : Inv N S) {n : Int} {r : FR} (hr : S.file n = some r) {r' : FR} (h1 : r'.firm ≤ r'.bytes.length) (h2 : r'.bytes.length ≤ 16777216) : Inv N { S with file := upd S.file n (some r') } := by
  refine h.keep rfl rfl rfl rfl h.left h.room (fun m q hq => ?_) (fun m q hq => ?_)
  · by_cases e : m = n
    · subst e; exact ⟨r', upd_same _ _ _⟩
    · exact ⟨q, by show upd S.file n _ m = _; rw [upd_other _ _ e]; exact hq⟩
  · have hq' : upd S.file n (some r') m = some q := hq
    by_cases e : m = n
    · subst e
      rw [upd_same] at hq'
      cases hq'
      have := h.file m r hr
      exact ⟨this.1, this.2.1, h1, h2⟩
    · rw [upd_other _ _ e] at hq'
      exact h.file m q hq'

theorem past_app (S : AS) (c : Ch) (k : Nat) (hk : k ≤ S.loose.length) : past (S.altered c) k = past S k := by
  unfold past AS.altered
  simp only
  rw [List.take_append_of_le_length hk]
theorem past_app_last (S : AS) (c : Ch) : past (S.altered c) (S.altered c).loose.length = c.app (past S S.loose.length) := by
  have h1 : (S.altered c).loose.length = S.loose.length + 1 := by simp [AS.altered]
  rw [h1, past_succ _ _ (by rw [h1]; omega), past_app S c _ (Nat.le_refl _)]
  congr 1
  simp [AS.altered]

theorem Inv.altered {N : Nat} {S : AS} (h : Inv N S) {c : Ch} (hc : c.frm.length ≤ 32 ∧ c.to.length ≤ 32 ∧ 0 ≤ c.file ∧ c.file ≤ S.last) (hg : Good S.file (c.app S.names)) : Inv (N + 1) (S.altered c) := by
  have hl : (S.altered c).loose.length = S.loose.length + 1 := by simp [AS.altered]
  refine ⟨h.left, h.room, by have := h.last; exact ⟨this.1, by show S.last ≤ _; push_cast; omega⟩, by rw [hl]; have := h.loose; omega, ?_, ?_, ?_, h.file⟩
  · rw [past_app_last, ← h.now]; rfl
  · intro k hk
    by_cases e : k ≤ S.loose.length
    · rw [past_app S c k e]; exact h.good k e
    · have : k = (S.altered c).loose.length := by omega
      subst this
      rw [past_app_last, ← h.now]
      exact hg
  · intro c' hc'
    have : c' ∈ S.loose ++ [c] := hc'
    rcases List.mem_append.1 this with h1 | h1
    · exact h.chs c' h1
    · rw [List.mem_singleton] at h1; subst h1; exact hc

/-- A file is made. -/
theorem Inv.made {N : Nat} {S : AS} (h : Inv N S) {l : List UInt8} (hl : nameOk l = true) (hn : look S.names l = none) (hs : Maps.size S.names < 64) : Inv (N + 1) (S.made l) := by
  have hnone : S.file (S.last + 1) = none := by
    cases hf : S.file (S.last + 1) with
    | none => rfl
    | some r => have := (h.file _ r hf).2.1; omega
  have ho : Inv (N + 1) S.opened := by
    refine ⟨h.left, h.room, by have := h.last; show 0 ≤ S.last + 1 ∧ S.last + 1 ≤ _; push_cast; omega, by have := h.loose; show S.loose.length ≤ _; omega, h.now, fun k hk => ?_, fun c hc => by have := h.chs c hc; exact ⟨this.1, this.2.1, this.2.2.1, by show c.file ≤ S.last + 1; omega⟩, fun n r hr => ?_⟩
    · refine (h.good k hk).mono fun l n r hl hr => ⟨r, ?_⟩
      show upd S.file _ _ n = _
      rw [upd_other _ _ (by rintro rfl; rw [hnone] at hr; cases hr)]
      exact hr
    · have hr' : upd S.file (S.last + 1) (some { bytes := [], firm := 0 }) n = some r := hr
      by_cases e : n = S.last + 1
      · subst e
        rw [upd_same] at hr'
        cases hr'
        have := h.last
        exact ⟨by omega, Int.le_refl _, by simp, by simp⟩
      · rw [upd_other _ _ e] at hr'
        have := h.file n r hr'
        exact ⟨this.1, by show n ≤ S.last + 1; omega, this.2.2⟩
  have hg : Good S.opened.file ((Ch.mk [] l (S.last + 1)).app S.opened.names) := h.names.make hl hn hnone hs
  have hll := nameOk_len hl
  have hla := h.last
  have := ho.altered (c := Ch.mk [] l (S.last + 1)) ⟨by simp, hll.2, by show 0 ≤ S.last + 1; omega, Int.le_refl _⟩ hg
  refine ⟨this.left, this.room, ?_, ?_, this.now, this.good, this.chs, this.file⟩
  · show 0 ≤ S.last + 1 ∧ S.last + 1 ≤ _; push_cast; omega
  · show (S.loose ++ [_]).length ≤ _; have := h.loose; simp; omega

theorem Inv.renamed {N : Nat} {S : AS} (h : Inv N S) {a b : List UInt8} {n : Int} (ha : nameOk a = true) (hb : nameOk b = true) (hn : look S.names a = some n) : Inv (N + 1) (S.renamed a b n) := by
  obtain ⟨r, hr⟩ := h.names.ref a n hn
  have := h.file n r hr
  exact h.altered ⟨(nameOk_len ha).2, (nameOk_len hb).2, by show 0 ≤ n; omega, this.2.1⟩ (h.names.rename hb hn)
theorem Inv.removed {N : Nat} {S : AS} (h : Inv N S) {a : List UInt8} (ha : nameOk a = true) : Inv (N + 1) (S.removed a) :=
  h.altered ⟨(nameOk_len ha).2, by simp, Int.le_refl _, h.last.1⟩ (h.names.remove a)

theorem keeps_of {f : Int → Option FR} {D : DU} (h : Good f D) {l : List UInt8} {n : Int} (hl : look D l = some n) : keeps D n = true :=
  keeps_look (h.canon.canon law9.one) (look_some h.ints hl)

theorem Inv.settled {N : Nat} {S : AS} (h : Inv N S) : Inv N S.settled := by
  have hg : Good S.settled.file S.names := h.names.mono fun l n r hl hr => ⟨r, by show (if keeps S.names n = true then S.file n else none) = _; rw [if_pos (keeps_of h.names hl)]; exact hr⟩
  refine ⟨h.left, h.room, h.last, Nat.zero_le _, rfl, fun k hk => ?_, fun c hc => (by cases hc), fun n r hr => ?_⟩
  · have : past S.settled k = S.names := by unfold past AS.settled; simp
    rw [this]; exact hg
  · have hr' : (if keeps S.names n = true then S.file n else none) = some r := hr
    split at hr'
    · exact h.file n r hr'
    · cases hr'

theorem foldl_isSome (D : DU) (m : Int) : ∀ (ls : List (List UInt8)) (st : (Int → Option FR) × List Int), ((ls.foldl (crashStep D) st).1 m).isSome = (st.1 m).isSome := by
  intro ls
  induction ls with
  | nil => intro st; rfl
  | cons l ls ih => intro st; rw [List.foldl_cons, ih, crashStep_isSome]
theorem foldl_sane (D : DU) : ∀ (ls : List (List UInt8)) (st : (Int → Option FR) × List Int), Sane st.1 → Sane (ls.foldl (crashStep D) st).1 := by
  intro ls
  induction ls with
  | nil => intro st h; exact h
  | cons l ls ih => intro st h; rw [List.foldl_cons]; exact ih _ (h.step l)

theorem Inv.crashed {N : Nat} {S : AS} (h : Inv N S) (ps : List Int) : Inv N (S.crashed ps) := by
  have hk : (pickN ps (S.loose.length : Int)).toNat ≤ S.loose.length := by have := pickN_bd ps (S.loose.length : Int) (by omega); omega
  have hgk := h.good _ hk
  have hsane : Sane S.file := fun n r hr => (h.file n r hr).2.2
  unfold AS.crashed
  generalize (pickN ps (S.loose.length : Int)).toNat = k at *
  have hsn := foldl_sane (past S k) (sortedKeys (past S k)) (S.file, ps.tail) hsane
  have his : ∀ m, (((sortedKeys (past S k)).foldl (crashStep (past S k)) (S.file, ps.tail)).1 m).isSome = (S.file m).isSome := fun m => foldl_isSome (past S k) m (sortedKeys (past S k)) (S.file, ps.tail)
  generalize ((sortedKeys (past S k)).foldl (crashStep (past S k)) (S.file, ps.tail)).1 = f at *
  have hff : ∀ n r, f n = some r → 1 ≤ n ∧ n ≤ S.last ∧ r.firm ≤ r.bytes.length ∧ r.bytes.length ≤ 16777216 := fun n r hr => by
    have := his n
    rw [hr] at this
    obtain ⟨q, hq⟩ := Option.isSome_iff_exists.1 this.symm
    have h1 := h.file n q hq
    exact ⟨h1.1, h1.2.1, hsn n r hr⟩
  have hg : Good f (past S k) := hgk.mono fun l n r _ hr => by
    have := his n
    rw [hr] at this
    exact Option.isSome_iff_exists.1 this
  have hi : Inv N { S with names := past S k, firm := past S k, loose := [], file := f } :=
    ⟨h.left, h.room, h.last, Nat.zero_le _, rfl, fun j hj => by
      have : past { S with names := past S k, firm := past S k, loose := [], file := f } j = past S k := by unfold past; simp
      rw [this]; exact hg, fun c hc => (by cases hc), hff⟩
  have h2 := hi.settled
  exact (h2.keep (S' := { AS.settled { S with names := past S k, file := f } with on := true }) rfl rfl rfl rfl h.left h.room (fun n r hr => ⟨r, hr⟩) (fun n r hr => h2.file n r hr)).arm (-1) (by omega)

theorem inv_new (room : Int) : Inv 0 (AS.new room) := by
  refine ⟨⟨Int.le_refl _, by show (0 : Int) ≤ _; omega⟩, ?_, ⟨Int.le_refl _, Int.le_refl _⟩, Nat.le_refl _, rfl, fun k hk => ?_, fun c hc => (by cases hc), fun n r hr => by cases hr⟩
  · show 0 ≤ roomOf room ∧ roomOf room ≤ 16777216; unfold roomOf; omega
  · have : past (AS.new room) k = .map [] := by unfold past AS.new; simp
    rw [this]; exact good_empty _

end Go.Proofs.YtccjkolcmdhliaaGreatDoor
/- The calls, as a law sees them: a disk lies from block B on, and keeps what every disk keeps. -/
namespace Go.Proofs.YtccjkolcmdhliaaGreatDoor
open Go.RowKit Go.Maps Go.Sort
set_option linter.unusedVariables false

structure Dsk (w : World) (B d N : Nat) (S : AS) : Prop where
  inv : Inv N S
  mem : ∃ R, At w d R S ∧ ∀ k, foot d R S k → B ≤ k
  big : N ≤ 1000000000000
  base : B ≤ w.heap.size

theorem Dsk.of_post {w w' : World} {B d M : Nat} {R : Rp} {S S' : AS} (hb : B ≤ w.heap.size) (hf : ∀ k, foot d R S k → B ≤ k) (hP : Post d R S w S' w') (hi : Inv M S') (hM : M ≤ 1000000000000) : Dsk w' B d M S' ∧ Below B w w' := by
  obtain ⟨R', P⟩ := hP
  have hbl : Below B w w' := P.fr.below_of hb hf
  refine ⟨⟨hi, ⟨R', P.at_, fun k hk => ?_⟩, hM, Nat.le_trans hb hbl.size⟩, hbl⟩
  rcases P.foot k hk with h | h
  · exact hf k h
  · omega
theorem Dsk.keep {w w' : World} {B d N : Nat} {S : AS} (h : Dsk w B d N S) (hf : Fr No w w') : Dsk w' B d N S := by
  obtain ⟨R, h1, h2⟩ := h.mem
  exact ⟨h.inv, ⟨R, h1.keep hf, h2⟩, h.big, Nat.le_trans h.base hf.size⟩
theorem Dsk.below {w w' : World} {B d N : Nat} {S : AS} (h : Dsk w B d N S) (hb : Below w.heap.size w w') : Dsk w' B d N S := h.keep (Fr.of_below hb)
theorem Dsk.more {w : World} {B d N M : Nat} {S : AS} (h : Dsk w B d N S) (hNM : N ≤ M) (hM : M ≤ 1000000000000) : Dsk w B d M S := ⟨h.inv.mono hNM, h.mem, hM, h.base⟩
theorem fr_base {w w' : World} {B d N : Nat} {S : AS} (h : Dsk w B d N S) (hf : Fr No w w') : Below B w w' := hf.below.mono h.base
theorem Dsk.wf {w : World} {B d N : Nat} {S : AS} (h : Dsk w B d N S) : WF S := h.inv.wf (by have := h.big; omega)
theorem Dsk.size {w : World} {B d N : Nat} {S : AS} (h : Dsk w B d N S) : Maps.size S.names ≤ 1000000 := by have := h.inv.names.small; omega

def AS.write (S : AS) (l data : List UInt8) : AS × Int :=
  if checkOf S.on [l] = 0 then
    if S.room < usedOf S.file S.names + data.length then (S, 12)
    else match look S.names l with
      | some n => match S.file n with
        | some r => ((S.written n r data).step, S.stepE)
        | none => (S, 12)
      | none => if 64 ≤ Maps.size S.names then (S, 12) else (((S.made l).written (S.last + 1) { bytes := [], firm := 0 } data).step, S.stepE)
  else (S, checkOf S.on [l])

theorem checkOf_ok {on : Bool} {l : List UInt8} (h : checkOf on [l] = 0) : nameOk l = true := by
  cases on
  · simp [checkOf] at h
  · unfold checkOf at h
    simp at h
    exact h
theorem used_nonneg {f : Int → Option FR} {D : DU} : 0 ≤ usedOf f D := by
  unfold usedOf
  cases D with
  | map es => exact sum_nonneg _ _
  | _ => simp

theorem len_le_used {f : Int → Option FR} {D : DU} (c : Canon D) (hi : Ints D) {l : List UInt8} {n : Int} {r : FR} (hl : look D l = some n) (hr : f n = some r) : (r.bytes.length : Int) ≤ usedOf f D := by
  obtain ⟨es, p, rfl, hp, hk, hv, hu⟩ := find_entry c (look_some hi hl)
  unfold usedOf
  simp only
  have : ∀ es : List (Lit × DU), p ∈ es → flen f p ≤ (es.map (flen f)).sum := by
    intro es
    induction es with
    | nil => intro h; cases h
    | cons q es ih =>
      intro h
      have h1 := sum_nonneg f es
      have h2 := flen_nonneg f q
      rcases List.mem_cons.1 h with rfl | h
      · simp; omega
      · have := ih h; simp; omega
  have h1 := this es hp
  have h2 : flen f p = r.bytes.length := by unfold flen; rw [hv]; simp only [hr]
  omega

theorem m_write {w : World} {B d N : Nat} {S : AS} (h : Dsk w B d N S) (hN : N + 1 ≤ 1000000000000) (l : List UInt8) (data : List UInt8) (hl : l.length ≤ maxLen) (hd : data.length ≤ maxLen) :
    Calls Tryz.prog 27 #[.pointer (some ⟨d, 0, none⟩), .string ⟨l.toArray⟩, .string ⟨data.toArray⟩] w fun e w' => e = .returned (.int .i64 (S.write l data).2) ∧ Dsk w' B d (N + 1) (S.write l data).1 ∧ Below B w w' := by
  obtain ⟨R, hA, hf⟩ := h.mem
  have hW := h.wf
  have hsz := h.size
  have hsd : (⟨data.toArray⟩ : ByteArray).size = data.length := by simp [ByteArray.size]
  have hlo := h.inv.loose
  have hla := h.inv.last
  have hbig := h.big
  have stay : ∀ {E : Int}, Calls Tryz.prog 27 #[.pointer (some ⟨d, 0, none⟩), .string ⟨l.toArray⟩, .string ⟨data.toArray⟩] w (fun e w' => e = .returned (.int .i64 E) ∧ Fr No w w') →
      Calls Tryz.prog 27 #[.pointer (some ⟨d, 0, none⟩), .string ⟨l.toArray⟩, .string ⟨data.toArray⟩] w fun e w' => e = .returned (.int .i64 E) ∧ Dsk w' B d (N + 1) S ∧ Below B w w' := fun hc => by
    refine hc.mono ?_
    rintro e w' ⟨he, hfr⟩
    exact ⟨he, (h.keep hfr).more (by omega) hN, fr_base h hfr⟩
  unfold AS.write
  by_cases hE : checkOf S.on [l] = 0
  · rw [if_pos hE]
    by_cases hful : S.room < usedOf S.file S.names + data.length
    · rw [if_pos hful]
      exact stay (write_full1 d R S l (look S.names l) ⟨data.toArray⟩ w hA hW hl hE rfl hsz (by rw [hsd]; exact hd) (by rw [hsd]; exact hful))
    · rw [if_neg hful]
      cases hn : look S.names l with
      | some n =>
        obtain ⟨r, hr⟩ := hW.ref l n hn
        simp only [hr]
        refine (write_old d R S l n r data w hA hW hl hE hn hr hsz (by omega)).mono ?_
        rintro e w' ⟨he, hP⟩
        have hlen := len_le_used (h.inv.names.canon.canon law9.one) h.inv.names.ints hn hr
        have hroom := h.inv.room
        have hfi := h.inv.file n r hr
        have hi : Inv (N + 1) (S.written n r data).step := ((h.inv.turn hr (r' := { bytes := r.bytes ++ data, firm := r.firm }) (by simp; omega) (by simp; omega)).step).mono (by omega)
        exact ⟨he, Dsk.of_post h.base hf hP hi hN⟩
      | none =>
        simp only
        by_cases h64 : 64 ≤ Maps.size S.names
        · rw [if_pos h64]
          exact stay (write_full2 d R S l data w hA hW hl hE hn hsz (by omega) h64)
        · rw [if_neg h64]
          refine (write_new d R S l data w hA hW hl hE hn hsz (by omega) (by omega) (by omega) (by omega)).mono ?_
          rintro e w' ⟨he, hP⟩
          have hm := h.inv.made (checkOf_ok hE) hn (by omega)
          have hroom := h.inv.room
          have hu := @used_nonneg S.file S.names
          have hi := (hm.turn (n := S.last + 1) (r := { bytes := [], firm := 0 }) (upd_same _ _ _) (r' := { bytes := [] ++ data, firm := 0 }) (by simp) (by simp; omega)).step
          exact ⟨he, Dsk.of_post h.base hf hP hi hN⟩
  · rw [if_neg hE]
    exact stay (write_bad d R S l ⟨data.toArray⟩ _ w hA hl rfl hE)

def AS.read (S : AS) (l : List UInt8) : List UInt8 × Int :=
  if checkOf S.on [l] = 0 then
    match look S.names l with
    | some n => match S.file n with
      | some r => (r.bytes, 0)
      | none => ([], 11)
    | none => ([], 11)
  else ([], checkOf S.on [l])

theorem m_read {w : World} {B d N : Nat} {S : AS} (h : Dsk w B d N S) (l : List UInt8) (hl : l.length ≤ maxLen) :
    Calls Tryz.prog 47 #[.pointer (some ⟨d, 0, none⟩), .string ⟨l.toArray⟩] w fun e w' => e = .returned (.tuple #[.string ⟨(S.read l).1.toArray⟩, .int .i64 (S.read l).2]) ∧ Fr No w w' := by
  obtain ⟨R, hA, hf⟩ := h.mem
  unfold AS.read
  by_cases hE : checkOf S.on [l] = 0
  · rw [if_pos hE]
    cases hn : look S.names l with
    | none => exact read_none d R S l w hA hl hE hn
    | some n =>
      obtain ⟨r, hr⟩ := h.wf.ref l n hn
      simp only [hr]
      exact read_some d R S l n r w hA h.wf hl hE hn hr
  · rw [if_neg hE]
    exact read_bad d R S l _ w hA hl rfl hE

theorem m_sync {w : World} {B d N : Nat} {S : AS} (h : Dsk w B d N S) (l : List UInt8) (hl : l.length ≤ maxLen) :
    Calls Tryz.prog 29 #[.pointer (some ⟨d, 0, none⟩), .string ⟨l.toArray⟩] w fun e w' => e = .returned (.int .i64 (S.sync l).2) ∧ Dsk w' B d N (S.sync l).1 ∧ Below B w w' := by
  obtain ⟨R, hA, hf⟩ := h.mem
  refine (sync_any d R S l w hA h.wf hl).mono ?_
  rintro e w' ⟨he, hP⟩
  refine ⟨he, Dsk.of_post h.base hf hP ?_ h.big⟩
  unfold AS.sync
  by_cases hE : checkOf S.on [l] = 0
  · rw [if_pos hE]
    cases hn : look S.names l with
    | none => exact h.inv
    | some n =>
      cases hr : S.file n with
      | none => simp only [hr]; exact h.inv
      | some r =>
        simp only [hr]
        have hst := h.inv.step
        split
        · exact hst.turn (n := n) (r := r) (by rw [(step_same S).2.2.2.1]; exact hr) (r' := { bytes := r.bytes, firm := r.bytes.length }) (Nat.le_refl _) (h.inv.file n r hr).2.2.2
        · exact hst
  · rw [if_neg hE]; exact h.inv

def AS.settle (S : AS) : AS × Int :=
  if S.on then (if S.stepE = 0 then (S.step.settled, 0) else (S.step, 13)) else (S, 13)

theorem m_settle {w : World} {B d N : Nat} {S : AS} (h : Dsk w B d N S) :
    Calls Tryz.prog 30 #[.pointer (some ⟨d, 0, none⟩)] w fun e w' => e = .returned (.int .i64 S.settle.2) ∧ Dsk w' B d N S.settle.1 ∧ Below B w w' := by
  obtain ⟨R, hA, hf⟩ := h.mem
  unfold AS.settle
  by_cases hon : S.on = true
  · rw [if_pos hon]
    rcases stepE_01 S with he | he
    · rw [if_pos he]
      refine (settle_ok d R S w hA h.wf h.size hon he).mono ?_
      rintro e w' ⟨h1, hP⟩
      exact ⟨h1, Dsk.of_post h.base hf hP h.inv.step.settled h.big⟩
    · rw [if_neg (by rw [he]; decide)]
      refine (settle_out d R S w hA h.inv.left.2 hon he).mono ?_
      rintro e w' ⟨h1, hP⟩
      exact ⟨h1, Dsk.of_post h.base hf hP.post h.inv.step h.big⟩
  · rw [if_neg hon]
    have hoff : S.on = false := by simpa using hon
    refine (settle_off d w (by have := (cells_all hA).2.1; rw [hoff] at this; exact this)).mono ?_
    rintro e w' ⟨h1, rfl⟩
    exact ⟨h1, h, Below.refl _ _⟩

def AS.rename (S : AS) (a b : List UInt8) : AS × Int :=
  if checkOf S.on [a, b] = 0 then
    match look S.names a with
    | none => (S, 11)
    | some n => if a = b then (S.step, S.stepE) else ((S.renamed a b n).step, S.stepE)
  else (S, checkOf S.on [a, b])

theorem checkOf_ok2 {on : Bool} {a b : List UInt8} (h : checkOf on [a, b] = 0) : nameOk a = true ∧ nameOk b = true := by
  cases on
  · simp [checkOf] at h
  · unfold checkOf at h
    simp at h
    exact h

def AS.remove (S : AS) (a : List UInt8) : AS × Int :=
  if checkOf S.on [a] = 0 then
    match look S.names a with
    | none => (S, 11)
    | some n => ((S.removed a).step, S.stepE)
  else (S, checkOf S.on [a])

theorem m_remove {w : World} {B d N : Nat} {S : AS} (h : Dsk w B d N S) (hN : N + 1 ≤ 1000000000000) (a : List UInt8) (ha : a.length ≤ maxLen) :
    Calls Tryz.prog 253 #[.pointer (some ⟨d, 0, none⟩), .string ⟨a.toArray⟩] w fun e w' => e = .returned (.int .i64 (S.remove a).2) ∧ Dsk w' B d (N + 1) (S.remove a).1 ∧ Below B w w' := by
  obtain ⟨R, hA, hf⟩ := h.mem
  have hlo := h.inv.loose
  unfold AS.remove
  by_cases hE : checkOf S.on [a] = 0
  · rw [if_pos hE]
    cases hn : look S.names a with
    | none =>
      refine (remove_err d a none 11 w (by decide) (find_none d R S a w hA ha hE hn)).mono ?_
      rintro e w' ⟨he, hfr⟩
      exact ⟨he, (h.keep hfr).more (by omega) hN, fr_base h hfr⟩
    | some n =>
      obtain ⟨r, hr⟩ := h.wf.ref a n hn
      refine (remove_some d R S a n r w hA h.wf ha hE hn hr h.size (by omega)).mono ?_
      rintro e w' ⟨he, hP⟩
      exact ⟨he, Dsk.of_post h.base hf hP (h.inv.removed (checkOf_ok hE)).step hN⟩
  · rw [if_neg hE]
    refine (remove_err d a none _ w hE (find_bad d R S a _ w hA ha rfl hE)).mono ?_
    rintro e w' ⟨he, hfr⟩
    exact ⟨he, (h.keep hfr).more (by omega) hN, fr_base h hfr⟩

theorem not_foot {w : World} {d g : Nat} {R : Rp} {S : AS} (hA : At w d R S) {cs : Array Value} {fz : Nat × Nat} (hg : w.heap[g]? = some (.cells cs 3 fz)) : ¬ foot d R S g := by
  have ne : ∀ {t : TypeId} {cs' : Array Value}, w.heap[g]? = some (.cells cs' t (0, 0)) → t ≠ 3 → False := fun h1 h2 => by
    rw [hg] at h1
    injection h1 with h1
    injection h1 with _ h3
    exact h2 h3.symm
  have mp : ∀ {K : TypeId} {E : Value → Option (DU × List MemPlace)} {m : Option Nat} {D : DU}, MapAt w Tryz.prog K E m D → m = some g → False := by
    rintro K E m D hm rfl
    obtain ⟨es, c, he⟩ := owns_map (b := g) hm
    exact map_ne_blk he hg rfl
  rintro (rfl | hk | hk | hk | hk | ⟨n, r, hr, hk⟩)
  · exact ne hA.blk (by decide)
  · exact mp hA.names hk
  · exact mp hA.firm hk
  · exact mp hA.files hk
  · obtain ⟨cur, hc⟩ := own_row hA.loose hk
    exact ne hc (by decide)
  · have hfd := hA.fd n
    rw [hr] at hfd
    rcases hk with rfl | hk
    · exact ne hfd.2.1 (by decide)
    · obtain ⟨cur, hc⟩ := own_row hfd.2.2 hk
      exact ne hc (by decide)

theorem m_crash {w : World} {B d N : Nat} {S : AS} (h : Dsk w B d N S) (g : Nat) (A : Option Addr) (n c : Nat) (ps : List Int) (hp : PicksAt w g A n c ps) (hg : 0 < n → g < B ∨ ∃ cs fz, w.heap[g]? = some (.cells cs 3 fz)) :
    Calls Tryz.prog 23 #[.pointer (some ⟨d, 0, none⟩), .slice A n c] w fun e w' => e = .returned (.tuple #[]) ∧ Dsk w' B d N (S.crashed ps) ∧ Below B w w' := by
  obtain ⟨R, hA, hf⟩ := h.mem
  have hlo := h.inv.loose
  have hbig := h.big
  have hla := h.inv.last
  refine (crash_any d R S g A n c ps w hA hp (fun hn hfo => ?_) (by omega) (fun k hk => by have := (h.inv.good k hk).small; omega) (fun c hc => ?_) (fun k hk => (h.inv.good k hk).ref) (fun n r hr => (h.inv.file n r hr).2.2) (fun m r hr => h.wf.wf hr)).mono ?_
  · rcases hg hn with h1 | ⟨cs, fz, h1⟩
    · have := hf g hfo; omega
    · exact not_foot hA h1 hfo
  · have := h.inv.chs c hc
    exact ⟨by omega, by omega, wf64 (by omega) (by omega)⟩
  · rintro e w' ⟨he, hP⟩
    exact ⟨he, Dsk.of_post h.base hf hP (h.inv.crashed ps) h.big⟩

theorem m_arm {w : World} {B d N : Nat} {S : AS} (h : Dsk w B d N S) (n : Int) (hn : n ≤ 9223372036854775807) :
    Calls Tryz.prog 22 #[.pointer (some ⟨d, 0, none⟩), .int .i64 n] w fun e w' => e = .returned (.tuple #[]) ∧ Dsk w' B d N (S.arm n) ∧ Below B w w' := by
  obtain ⟨R, hA, hf⟩ := h.mem
  refine (arm_any d R S n w hA).mono ?_
  rintro e w' ⟨he, h1, h2⟩
  exact ⟨he, Dsk.of_post h.base hf (PR.own (S := S) h1 h2 rfl).post (h.inv.arm n hn) h.big⟩
theorem m_limit {w : World} {B d N : Nat} {S : AS} (h : Dsk w B d N S) (n : Int) :
    Calls Tryz.prog 35 #[.pointer (some ⟨d, 0, none⟩), .int .i64 n] w fun e w' => e = .returned (.tuple #[]) ∧ Dsk w' B d N (S.limit n) ∧ Below B w w' := by
  obtain ⟨R, hA, hf⟩ := h.mem
  refine (limit_any d R S n w hA).mono ?_
  rintro e w' ⟨he, h1, h2⟩
  exact ⟨he, Dsk.of_post h.base hf (PR.own (S := S) h1 h2 rfl).post (h.inv.limit n) h.big⟩
theorem m_on {w : World} {B d N : Nat} {S : AS} (h : Dsk w B d N S) : Calls Tryz.prog 49 #[.pointer (some ⟨d, 0, none⟩)] w fun e w' => e = .returned (.bool S.on) ∧ w = w' := by
  obtain ⟨R, hA, hf⟩ := h.mem
  exact on_any d R S w hA
theorem m_steps {w : World} {B d N : Nat} {S : AS} (h : Dsk w B d N S) : Calls Tryz.prog 46 #[.pointer (some ⟨d, 0, none⟩)] w fun e w' => e = .returned (.int .i64 S.steps) ∧ w = w' := by
  obtain ⟨R, hA, hf⟩ := h.mem
  exact steps_any d R S w hA
theorem m_used {w : World} {B d N : Nat} {S : AS} (h : Dsk w B d N S) (hon : S.on = true) : Calls Tryz.prog 38 #[.pointer (some ⟨d, 0, none⟩)] w fun e w' => e = .returned (.int .i64 (usedOf S.file S.names)) ∧ Fr No w w' := by
  obtain ⟨R, hA, hf⟩ := h.mem
  obtain ⟨nb, fb, e1, e2⟩ := hA.onn hon
  exact used_any d R S nb w hA h.wf e1 h.size
theorem m_list {w : World} {B d N : Nat} {S : AS} (h : Dsk w B d N S) (hon : S.on = true) :
    Calls Tryz.prog 44 #[.pointer (some ⟨d, 0, none⟩)] w fun e w' => ∃ A c, e = .returned (.slice A (sortedKeys S.names).length c) ∧ w'.ownsRow w.heap.size 9 1 (.slice A (sortedKeys S.names).length c) (sortedKeys S.names).length ((sortedKeys S.names).map encStr) ∧ Fr No w w' := by
  obtain ⟨R, hA, hf⟩ := h.mem
  exact list_on d R S w hA hon h.size
theorem m_new (room : Int) (w : World) (B : Nat) (hB : B ≤ w.heap.size) :
    Calls Tryz.prog 11 #[.int .i64 room] w fun e w' => ∃ d, e = .returned (.pointer (some ⟨d, 0, none⟩)) ∧ Dsk w' B d 0 (AS.new room) ∧ Fr No w w' := by
  refine (new_any room w).mono ?_
  rintro e w' ⟨d, R, he, hA, hfr, hf⟩
  exact ⟨d, he, ⟨inv_new room, ⟨R, hA, fun k hk => by have := hf k hk; omega⟩, by omega, Nat.le_trans hB hfr.size⟩, hfr⟩

end Go.Proofs.YtccjkolcmdhliaaGreatDoor
/- The disk's calls, beside whatever blocks X are somebody else's. -/
namespace Go.Proofs.YtccjkolcmdhliaaGreatDoor
open Go.RowKit Go.Maps Go.Sort
set_option linter.unusedVariables false

/-- A disk none of whose blocks is among X. -/
structure Dk (w : World) (X : Nat → Prop) (d N : Nat) (S : AS) : Prop where
  inv : Inv N S
  mem : ∃ R, At w d R S ∧ ∀ k, foot d R S k → ¬ X k
  big : N ≤ 1000000000000
  base : ∀ k, X k → k < w.heap.size
theorem Dk.of_post {w w' : World} {X : Nat → Prop} {d M : Nat} {R : Rp} {S S' : AS} (hb : ∀ k, X k → k < w.heap.size) (hf : ∀ k, foot d R S k → ¬ X k) (hP : Post d R S w S' w') (hi : Inv M S') (hM : M ≤ 1000000000000) : Dk w' X d M S' ∧ Fr (fun k => ¬ X k) w w' := by
  obtain ⟨R', P⟩ := hP
  have hbl : Fr (fun k => ¬ X k) w w' := P.fr.mono fun k _ hk => hf k hk
  refine ⟨⟨hi, ⟨R', P.at_, fun k hk => ?_⟩, hM, fun k hk => Nat.lt_of_lt_of_le (hb k hk) hbl.size⟩, hbl⟩
  rcases P.foot k hk with h | h
  · exact hf k h
  · intro hx
    have := hb k hx
    omega
theorem Dk.keep {w w' : World} {X : Nat → Prop} {d N : Nat} {S : AS} (h : Dk w X d N S) (hf : Fr No w w') : Dk w' X d N S := by
  obtain ⟨R, h1, h2⟩ := h.mem
  exact ⟨h.inv, ⟨R, h1.keep hf, h2⟩, h.big, fun k hk => Nat.lt_of_lt_of_le (h.base k hk) hf.size⟩
/-- What turns is X's. -/
theorem Dk.side {w w' : World} {X : Nat → Prop} {d N : Nat} {S : AS} (h : Dk w X d N S) (hf : Fr X w w') : Dk w' X d N S := by
  obtain ⟨R, h1, h2⟩ := h.mem
  exact ⟨h.inv, ⟨R, h1.fr hf fun k hx hk => h2 k hk hx, h2⟩, h.big, fun k hk => Nat.lt_of_lt_of_le (h.base k hk) hf.size⟩
/-- Fewer blocks. -/
theorem Dk.less {w : World} {X Y : Nat → Prop} {d N : Nat} {S : AS} (h : Dk w X d N S) (hXY : ∀ k, Y k → X k) : Dk w Y d N S := by
  obtain ⟨R, h1, h2⟩ := h.mem
  exact ⟨h.inv, ⟨R, h1, fun k hk hy => h2 k hk (hXY k hy)⟩, h.big, fun k hk => h.base k (hXY k hk)⟩
/-- What is new since w is none of the disk's: X grows by it. -/
theorem Dk.grow {w w' : World} {X Y : Nat → Prop} {d N : Nat} {S : AS} (h : Dk w X d N S) (hf : Fr X w w') (hY : ∀ k, Y k → k < w'.heap.size ∧ (X k ∨ w.heap.size ≤ k)) : Dk w' Y d N S := by
  obtain ⟨R, h1, h2⟩ := h.mem
  refine ⟨h.inv, ⟨R, h1.fr hf fun k hx hk => h2 k hk hx, fun k hk hy => ?_⟩, h.big, fun k hk => (hY k hk).1⟩
  rcases (hY k hy).2 with hx | hx
  · exact h2 k hk hx
  · have := h1.lt k hk; omega
theorem Dk.more {w : World} {X : Nat → Prop} {d N M : Nat} {S : AS} (h : Dk w X d N S) (hNM : N ≤ M) (hM : M ≤ 1000000000000) : Dk w X d M S := ⟨h.inv.mono hNM, h.mem, hM, h.base⟩
theorem Dk.wf {w : World} {X : Nat → Prop} {d N : Nat} {S : AS} (h : Dk w X d N S) : WF S := h.inv.wf (by have := h.big; omega)
theorem Dk.size {w : World} {X : Nat → Prop} {d N : Nat} {S : AS} (h : Dk w X d N S) : Maps.size S.names ≤ 1000000 := by have := h.inv.names.small; omega
theorem x_write {w : World} {X : Nat → Prop} {d N : Nat} {S : AS} (h : Dk w X d N S) (hN : N + 1 ≤ 1000000000000) (l : List UInt8) (data : List UInt8) (hl : l.length ≤ maxLen) (hd : data.length ≤ maxLen) :
    Calls Tryz.prog 27 #[.pointer (some ⟨d, 0, none⟩), .string ⟨l.toArray⟩, .string ⟨data.toArray⟩] w fun e w' => e = .returned (.int .i64 (S.write l data).2) ∧ Dk w' X d (N + 1) (S.write l data).1 ∧ Fr (fun k => ¬ X k) w w' := by
  obtain ⟨R, hA, hf⟩ := h.mem
  have hW := h.wf
  have hsz := h.size
  have hsd : (⟨data.toArray⟩ : ByteArray).size = data.length := by simp [ByteArray.size]
  have hlo := h.inv.loose
  have hla := h.inv.last
  have hbig := h.big
  have stay : ∀ {E : Int}, Calls Tryz.prog 27 #[.pointer (some ⟨d, 0, none⟩), .string ⟨l.toArray⟩, .string ⟨data.toArray⟩] w (fun e w' => e = .returned (.int .i64 E) ∧ Fr No w w') →
      Calls Tryz.prog 27 #[.pointer (some ⟨d, 0, none⟩), .string ⟨l.toArray⟩, .string ⟨data.toArray⟩] w fun e w' => e = .returned (.int .i64 E) ∧ Dk w' X d (N + 1) S ∧ Fr (fun k => ¬ X k) w w' := fun hc => by
    refine hc.mono ?_
    rintro e w' ⟨he, hfr⟩
    exact ⟨he, (h.keep hfr).more (by omega) hN, hfr.any⟩
  unfold AS.write
  by_cases hE : checkOf S.on [l] = 0
  · rw [if_pos hE]
    by_cases hful : S.room < usedOf S.file S.names + data.length
    · rw [if_pos hful]
      exact stay (write_full1 d R S l (look S.names l) ⟨data.toArray⟩ w hA hW hl hE rfl hsz (by rw [hsd]; exact hd) (by rw [hsd]; exact hful))
    · rw [if_neg hful]
      cases hn : look S.names l with
      | some n =>
        obtain ⟨r, hr⟩ := hW.ref l n hn
        simp only [hr]
        refine (write_old d R S l n r data w hA hW hl hE hn hr hsz (by omega)).mono ?_
        rintro e w' ⟨he, hP⟩
        have hlen := len_le_used (h.inv.names.canon.canon law9.one) h.inv.names.ints hn hr
        have hroom := h.inv.room
        have hfi := h.inv.file n r hr
        have hi : Inv (N + 1) (S.written n r data).step := ((h.inv.turn hr (r' := { bytes := r.bytes ++ data, firm := r.firm }) (by simp; omega) (by simp; omega)).step).mono (by omega)
        exact ⟨he, Dk.of_post h.base hf hP hi hN⟩
      | none =>
        simp only
        by_cases h64 : 64 ≤ Maps.size S.names
        · rw [if_pos h64]
          exact stay (write_full2 d R S l data w hA hW hl hE hn hsz (by omega) h64)
        · rw [if_neg h64]
          refine (write_new d R S l data w hA hW hl hE hn hsz (by omega) (by omega) (by omega) (by omega)).mono ?_
          rintro e w' ⟨he, hP⟩
          have hm := h.inv.made (checkOf_ok hE) hn (by omega)
          have hroom := h.inv.room
          have hu := @used_nonneg S.file S.names
          have hi := (hm.turn (n := S.last + 1) (r := { bytes := [], firm := 0 }) (upd_same _ _ _) (r' := { bytes := [] ++ data, firm := 0 }) (by simp) (by simp; omega)).step
          exact ⟨he, Dk.of_post h.base hf hP hi hN⟩
  · rw [if_neg hE]
    exact stay (write_bad d R S l ⟨data.toArray⟩ _ w hA hl rfl hE)

theorem x_read {w : World} {X : Nat → Prop} {d N : Nat} {S : AS} (h : Dk w X d N S) (l : List UInt8) (hl : l.length ≤ maxLen) :
    Calls Tryz.prog 47 #[.pointer (some ⟨d, 0, none⟩), .string ⟨l.toArray⟩] w fun e w' => e = .returned (.tuple #[.string ⟨(S.read l).1.toArray⟩, .int .i64 (S.read l).2]) ∧ Fr No w w' := by
  obtain ⟨R, hA, hf⟩ := h.mem
  unfold AS.read
  by_cases hE : checkOf S.on [l] = 0
  · rw [if_pos hE]
    cases hn : look S.names l with
    | none => exact read_none d R S l w hA hl hE hn
    | some n =>
      obtain ⟨r, hr⟩ := h.wf.ref l n hn
      simp only [hr]
      exact read_some d R S l n r w hA h.wf hl hE hn hr
  · rw [if_neg hE]
    exact read_bad d R S l _ w hA hl rfl hE

theorem x_sync {w : World} {X : Nat → Prop} {d N : Nat} {S : AS} (h : Dk w X d N S) (l : List UInt8) (hl : l.length ≤ maxLen) :
    Calls Tryz.prog 29 #[.pointer (some ⟨d, 0, none⟩), .string ⟨l.toArray⟩] w fun e w' => e = .returned (.int .i64 (S.sync l).2) ∧ Dk w' X d N (S.sync l).1 ∧ Fr (fun k => ¬ X k) w w' := by
  obtain ⟨R, hA, hf⟩ := h.mem
  refine (sync_any d R S l w hA h.wf hl).mono ?_
  rintro e w' ⟨he, hP⟩
  refine ⟨he, Dk.of_post h.base hf hP ?_ h.big⟩
  unfold AS.sync
  by_cases hE : checkOf S.on [l] = 0
  · rw [if_pos hE]
    cases hn : look S.names l with
    | none => exact h.inv
    | some n =>
      cases hr : S.file n with
      | none => simp only [hr]; exact h.inv
      | some r =>
        simp only [hr]
        have hst := h.inv.step
        split
        · exact hst.turn (n := n) (r := r) (by rw [(step_same S).2.2.2.1]; exact hr) (r' := { bytes := r.bytes, firm := r.bytes.length }) (Nat.le_refl _) (h.inv.file n r hr).2.2.2
        · exact hst
  · rw [if_neg hE]; exact h.inv

theorem x_settle {w : World} {X : Nat → Prop} {d N : Nat} {S : AS} (h : Dk w X d N S) :
    Calls Tryz.prog 30 #[.pointer (some ⟨d, 0, none⟩)] w fun e w' => e = .returned (.int .i64 S.settle.2) ∧ Dk w' X d N S.settle.1 ∧ Fr (fun k => ¬ X k) w w' := by
  obtain ⟨R, hA, hf⟩ := h.mem
  unfold AS.settle
  by_cases hon : S.on = true
  · rw [if_pos hon]
    rcases stepE_01 S with he | he
    · rw [if_pos he]
      refine (settle_ok d R S w hA h.wf h.size hon he).mono ?_
      rintro e w' ⟨h1, hP⟩
      exact ⟨h1, Dk.of_post h.base hf hP h.inv.step.settled h.big⟩
    · rw [if_neg (by rw [he]; decide)]
      refine (settle_out d R S w hA h.inv.left.2 hon he).mono ?_
      rintro e w' ⟨h1, hP⟩
      exact ⟨h1, Dk.of_post h.base hf hP.post h.inv.step h.big⟩
  · rw [if_neg hon]
    have hoff : S.on = false := by simpa using hon
    refine (settle_off d w (by have := (cells_all hA).2.1; rw [hoff] at this; exact this)).mono ?_
    rintro e w' ⟨h1, rfl⟩
    exact ⟨h1, h, Fr.refl _ _⟩

theorem x_remove {w : World} {X : Nat → Prop} {d N : Nat} {S : AS} (h : Dk w X d N S) (hN : N + 1 ≤ 1000000000000) (a : List UInt8) (ha : a.length ≤ maxLen) :
    Calls Tryz.prog 253 #[.pointer (some ⟨d, 0, none⟩), .string ⟨a.toArray⟩] w fun e w' => e = .returned (.int .i64 (S.remove a).2) ∧ Dk w' X d (N + 1) (S.remove a).1 ∧ Fr (fun k => ¬ X k) w w' := by
  obtain ⟨R, hA, hf⟩ := h.mem
  have hlo := h.inv.loose
  unfold AS.remove
  by_cases hE : checkOf S.on [a] = 0
  · rw [if_pos hE]
    cases hn : look S.names a with
    | none =>
      refine (remove_err d a none 11 w (by decide) (find_none d R S a w hA ha hE hn)).mono ?_
      rintro e w' ⟨he, hfr⟩
      exact ⟨he, (h.keep hfr).more (by omega) hN, hfr.any⟩
    | some n =>
      obtain ⟨r, hr⟩ := h.wf.ref a n hn
      refine (remove_some d R S a n r w hA h.wf ha hE hn hr h.size (by omega)).mono ?_
      rintro e w' ⟨he, hP⟩
      exact ⟨he, Dk.of_post h.base hf hP (h.inv.removed (checkOf_ok hE)).step hN⟩
  · rw [if_neg hE]
    refine (remove_err d a none _ w hE (find_bad d R S a _ w hA ha rfl hE)).mono ?_
    rintro e w' ⟨he, hfr⟩
    exact ⟨he, (h.keep hfr).more (by omega) hN, hfr.any⟩

theorem x_crash {w : World} {X : Nat → Prop} {d N : Nat} {S : AS} (h : Dk w X d N S) (g : Nat) (A : Option Addr) (n c : Nat) (ps : List Int) (hp : PicksAt w g A n c ps) (hg : 0 < n → X g ∨ ∃ cs fz, w.heap[g]? = some (.cells cs 3 fz)) :
    Calls Tryz.prog 23 #[.pointer (some ⟨d, 0, none⟩), .slice A n c] w fun e w' => e = .returned (.tuple #[]) ∧ Dk w' X d N (S.crashed ps) ∧ Fr (fun k => ¬ X k) w w' := by
  obtain ⟨R, hA, hf⟩ := h.mem
  have hlo := h.inv.loose
  have hbig := h.big
  have hla := h.inv.last
  refine (crash_any d R S g A n c ps w hA hp (fun hn hfo => ?_) (by omega) (fun k hk => by have := (h.inv.good k hk).small; omega) (fun c hc => ?_) (fun k hk => (h.inv.good k hk).ref) (fun n r hr => (h.inv.file n r hr).2.2) (fun m r hr => h.wf.wf hr)).mono ?_
  · rcases hg hn with h1 | ⟨cs, fz, h1⟩
    · exact hf g hfo h1
    · exact not_foot hA h1 hfo
  · have := h.inv.chs c hc
    exact ⟨by omega, by omega, wf64 (by omega) (by omega)⟩
  · rintro e w' ⟨he, hP⟩
    exact ⟨he, Dk.of_post h.base hf hP (h.inv.crashed ps) h.big⟩

theorem x_arm {w : World} {X : Nat → Prop} {d N : Nat} {S : AS} (h : Dk w X d N S) (n : Int) (hn : n ≤ 9223372036854775807) :
    Calls Tryz.prog 22 #[.pointer (some ⟨d, 0, none⟩), .int .i64 n] w fun e w' => e = .returned (.tuple #[]) ∧ Dk w' X d N (S.arm n) ∧ Fr (fun k => ¬ X k) w w' := by
  obtain ⟨R, hA, hf⟩ := h.mem
  refine (arm_any d R S n w hA).mono ?_
  rintro e w' ⟨he, h1, h2⟩
  exact ⟨he, Dk.of_post h.base hf (PR.own (S := S) h1 h2 rfl).post (h.inv.arm n hn) h.big⟩
theorem x_limit {w : World} {X : Nat → Prop} {d N : Nat} {S : AS} (h : Dk w X d N S) (n : Int) :
    Calls Tryz.prog 35 #[.pointer (some ⟨d, 0, none⟩), .int .i64 n] w fun e w' => e = .returned (.tuple #[]) ∧ Dk w' X d N (S.limit n) ∧ Fr (fun k => ¬ X k) w w' := by
  obtain ⟨R, hA, hf⟩ := h.mem
  refine (limit_any d R S n w hA).mono ?_
  rintro e w' ⟨he, h1, h2⟩
  exact ⟨he, Dk.of_post h.base hf (PR.own (S := S) h1 h2 rfl).post (h.inv.limit n) h.big⟩
theorem x_on {w : World} {X : Nat → Prop} {d N : Nat} {S : AS} (h : Dk w X d N S) : Calls Tryz.prog 49 #[.pointer (some ⟨d, 0, none⟩)] w fun e w' => e = .returned (.bool S.on) ∧ w = w' := by
  obtain ⟨R, hA, hf⟩ := h.mem
  exact on_any d R S w hA
theorem x_steps {w : World} {X : Nat → Prop} {d N : Nat} {S : AS} (h : Dk w X d N S) : Calls Tryz.prog 46 #[.pointer (some ⟨d, 0, none⟩)] w fun e w' => e = .returned (.int .i64 S.steps) ∧ w = w' := by
  obtain ⟨R, hA, hf⟩ := h.mem
  exact steps_any d R S w hA
theorem x_used {w : World} {X : Nat → Prop} {d N : Nat} {S : AS} (h : Dk w X d N S) (hon : S.on = true) : Calls Tryz.prog 38 #[.pointer (some ⟨d, 0, none⟩)] w fun e w' => e = .returned (.int .i64 (usedOf S.file S.names)) ∧ Fr No w w' := by
  obtain ⟨R, hA, hf⟩ := h.mem
  obtain ⟨nb, fb, e1, e2⟩ := hA.onn hon
  exact used_any d R S nb w hA h.wf e1 h.size
theorem x_list {w : World} {X : Nat → Prop} {d N : Nat} {S : AS} (h : Dk w X d N S) (hon : S.on = true) :
    Calls Tryz.prog 44 #[.pointer (some ⟨d, 0, none⟩)] w fun e w' => ∃ A c, e = .returned (.slice A (sortedKeys S.names).length c) ∧ w'.ownsRow w.heap.size 9 1 (.slice A (sortedKeys S.names).length c) (sortedKeys S.names).length ((sortedKeys S.names).map encStr) ∧ Fr No w w' := by
  obtain ⟨R, hA, hf⟩ := h.mem
  exact list_on d R S w hA hon h.size
theorem x_new (room : Int) (w : World) (X : Nat → Prop) (hX : ∀ k, X k → k < w.heap.size) :
    Calls Tryz.prog 11 #[.int .i64 room] w fun e w' => ∃ d, e = .returned (.pointer (some ⟨d, 0, none⟩)) ∧ Dk w' X d 0 (AS.new room) ∧ Fr No w w' := by
  refine (new_any room w).mono ?_
  rintro e w' ⟨d, R, he, hA, hfr, hf⟩
  exact ⟨d, he, ⟨inv_new room, ⟨R, hA, fun k hk hx => by have := hf k hk; have := hX k hx; omega⟩, by omega, fun k hk => Nat.lt_of_lt_of_le (hX k hk) hfr.size⟩, hfr⟩

end Go.Proofs.YtccjkolcmdhliaaGreatDoor
/- Cut. -/
namespace Go.Proofs.YtccjkolcmdhliaaGreatDoor
open Go.RowKit Go.Maps
set_option linter.unusedVariables false

/-- What Cut does where there is nothing against it. -/
def AS.cutF (S : AS) (n : Int) (r : FR) (k : Nat) : AS := { S with file := upd S.file n (some { bytes := r.bytes.take k, firm := min r.firm k }) }
def AS.cut (S : AS) (l : List UInt8) (size : Int) : AS × Int :=
  if checkOf S.on [l] = 0 then
    match look S.names l with
    | none => (S, 11)
    | some n =>
      match S.file n with
      | none => (S, 11)
      | some r => if size < 0 ∨ (r.bytes.length : Int) < size then (S, 1) else if S.stepE = 0 then (S.step.cutF n r size.toNat, 0) else (S.step, S.stepE)
  else (S, checkOf S.on [l])

set_option maxHeartbeats 400000 in
theorem cut_err (d : Nat) (l : List UInt8) (size : Int) (v : Option Addr) (E : Int) (w : World) (hE : E ≠ 0)
    (hfind : Calls Tryz.prog 79 #[.pointer (some ⟨d, 0, none⟩), .string ⟨l.toArray⟩] w fun e w' => e = .returned (.tuple #[.pointer v, .int .i64 E]) ∧ Fr No w w') :
    Calls Tryz.prog 252 #[.pointer (some ⟨d, 0, none⟩), .string ⟨l.toArray⟩, .int .i64 size] w fun e w' => e = .returned (.int .i64 E) ∧ Fr No w w' := by
  have hne2 : (E != 0) = true := by simpa using hE
  go_enter Tryz.func252, Tryz.ntmps252
  go_wp2_with fail
  refine hfind.mono ?_
  rintro e w' ⟨rfl, hf⟩
  have HF := Lib.hid hf; clear hf hfind
  go_wp2
  go_ret
  exact ⟨rfl, HF.out⟩

set_option maxHeartbeats 400000 in
theorem cut_arg (d : Nat) (R : Rp) (S : AS) (l : List UInt8) (size : Int) (n : Int) (r : FR) (w : World) (h : At w d R S) (hW : WF S) (hl : l.length ≤ maxLen) (hE : checkOf S.on [l] = 0) (hn : look S.names l = some n) (hr : S.file n = some r) (hs : size < 0 ∨ (r.bytes.length : Int) < size) :
    Calls Tryz.prog 252 #[.pointer (some ⟨d, 0, none⟩), .string ⟨l.toArray⟩, .int .i64 size] w fun e w' => e = .returned (.int .i64 1) ∧ PR d R S w R S w' := by
  have hcon := find_some d R S l n r w h hl hE hn hr (hW.wf hr)
  have hbl := (hW.file n r hr).2.2.2
  have HS := Lib.hid hs
  have HR := Lib.hid hr
  clear hE hn hl hW hs hr
  go_enter Tryz.func252, Tryz.ntmps252
  go_wp2_with fail
  refine hcon.mono ?_
  rintro e w1 ⟨rfl, hf⟩
  have P1 := PR.same h hf
  have hfd := P1.at_.fd n
  rw [HR.out] at hfd
  obtain ⟨_, hb, ho⟩ := hfd
  obtain ⟨A, c, hv⟩ := row_len ho
  have c0 : w1.cell? ⟨(R.rc n).1, 0, none⟩ = some (R.rc n).2 := hb.cell 0
  rw [hv] at c0
  have HP := Lib.hid P1
  clear hcon h hf hv hb ho P1
  by_cases h0 : size < 0
  · go_wp2
    go_ret
    exact ⟨rfl, HP.out⟩
  · have h1 : (r.bytes.length : Int) < size := HS.out.resolve_left h0
    go_wp2
    go_ret
    exact ⟨rfl, HP.out⟩

set_option maxHeartbeats 400000 in
theorem cut_out (d : Nat) (R : Rp) (S : AS) (l : List UInt8) (size : Int) (n : Int) (r : FR) (w : World) (h : At w d R S) (hW : WF S) (hl : l.length ≤ maxLen) (hE : checkOf S.on [l] = 0) (hn : look S.names l = some n) (hr : S.file n = some r) (hs0 : 0 ≤ size) (hs1 : size ≤ (r.bytes.length : Int)) (he : S.stepE = 13) :
    Calls Tryz.prog 252 #[.pointer (some ⟨d, 0, none⟩), .string ⟨l.toArray⟩, .int .i64 size] w fun e w' => e = .returned (.int .i64 13) ∧ PR d R S w R S.step w' := by
  have hcon := find_some d R S l n r w h hl hE hn hr (hW.wf hr)
  have hbl := (hW.file n r hr).2.2.2
  have hst := fun w1 (h1 : At w1 d R S) => step_ok d R S w1 h1 hW.left.2 13 he
  have HST := Lib.hid hst
  have HR := Lib.hid hr
  clear hE hn hl hW he hst hr
  go_enter Tryz.func252, Tryz.ntmps252
  go_wp2_with fail
  refine hcon.mono ?_
  rintro e w1 ⟨rfl, hf⟩
  have P1 := PR.same h hf
  have hfd := P1.at_.fd n
  rw [HR.out] at hfd
  obtain ⟨_, hb, ho⟩ := hfd
  obtain ⟨A, c, hv⟩ := row_len ho
  have c0 : w1.cell? ⟨(R.rc n).1, 0, none⟩ = some (R.rc n).2 := hb.cell 0
  rw [hv] at c0
  have HP := Lib.hid P1
  clear hcon h hf hv hb ho P1
  go_wp2_with fail
  refine (HST.out w1 HP.out.at_).mono ?_
  rintro e w2 ⟨rfl, h2, hf2⟩
  have P2 := HP.out.trans (PR.own h2 hf2 (step_same S).2.2.2.1)
  have HP2 := Lib.hid P2
  clear HST h2 hf2 HP P2
  go_wp2
  go_ret
  exact ⟨rfl, HP2.out⟩

theorem cut_end {w0 w2 : World} {d : Nat} {R : Rp} {S S1 : AS} {n : Int} {r : FR} {k c : Nat} {A : Option Addr} (P2 : PR d R S w0 R S1 w2) (hr : S1.file n = some r) (hv : (R.rc n).2 = .slice A r.bytes.length c) (hk : k ≤ r.bytes.length) :
    Post d R S w0 (S1.cutF n r k) ((w2.setCell ⟨(R.rc n).1, 0, none⟩ (.slice A k c)).setCell ⟨(R.rc n).1, 1, none⟩ (.int .i64 ((min r.firm k : Nat) : Int))) := by
  have hfd := P2.at_.fd n
  rw [hr] at hfd
  obtain ⟨_, hb, ho⟩ := hfd
  have hf3 : Fr (fileB R n) w2 ((w2.setCell ⟨(R.rc n).1, 0, none⟩ (.slice A k c)).setCell ⟨(R.rc n).1, 1, none⟩ (.int .i64 ((min r.firm k : Nat) : Int))) :=
    ((Fr.refl _ _).setCell (p := ⟨(R.rc n).1, 0, none⟩) (fun _ => .inl rfl) _).setCell (p := ⟨(R.rc n).1, 1, none⟩) (fun _ => .inl rfl) _
  have hne : ∀ j, (R.rc n).2.ownBlock = some j → j ≠ (R.rc n).1 := fun j hj => own_blk_ne ho hj hb (by decide)
  have hown : (Value.slice A k c).ownBlock = (R.rc n).2.ownBlock := by rw [hv]; cases A <;> rfl
  have hl : (r.bytes.take k).length = k := by rw [List.length_take]; omega
  refine (P2.trans (PR.file (r' := { bytes := r.bytes.take k, firm := min r.firm k }) (v' := .slice A k c) P2.at_ hr hf3 ((hb.set_ 0 _).set_ 1 _) ?_ fun j hj => .inl (hown ▸ hj))).post
  show World.ownsRow _ 0 5 1 _ (r.bytes.take k).length ((r.bytes.take k).map byteV)
  rw [hl, List.map_take]
  rw [hv] at ho
  refine own_of (own_take ho k hk) (fun j hj => ?_)
  have := hne j (hown ▸ hj)
  exact (Below.heap_setCell _ _ _ _ this).trans (Below.heap_setCell _ _ _ _ this)

theorem min_int (a k : Nat) : min (a : Int) (k : Int) = ((min a k : Nat) : Int) := by omega

set_option maxHeartbeats 1000000 in
theorem cut_ok (d : Nat) (R : Rp) (S : AS) (l : List UInt8) (k : Nat) (n : Int) (r : FR) (w : World) (h : At w d R S) (hW : WF S) (hl : l.length ≤ maxLen) (hE : checkOf S.on [l] = 0) (hn : look S.names l = some n) (hr : S.file n = some r) (hs1 : (k : Int) ≤ (r.bytes.length : Int)) (he : S.stepE = 0) :
    Calls Tryz.prog 252 #[.pointer (some ⟨d, 0, none⟩), .string ⟨l.toArray⟩, .int .i64 k] w fun e w' => e = .returned (.int .i64 0) ∧ Post d R S w (S.step.cutF n r k) w' := by
  have hcon := find_some d R S l n r w h hl hE hn hr (hW.wf hr)
  have hbl := (hW.file n r hr).2.2.2
  have hst := fun w1 (h1 : At w1 d R S) => step_ok d R S w1 h1 hW.left.2 0 he
  have HST := Lib.hid hst
  have HR := Lib.hid hr
  have hr2 : S.step.file n = some r := by rw [(step_same S).2.2.2.1]; exact hr
  have HR2 := Lib.hid hr2
  clear hE hn hl hW he hst hr hr2
  go_enter Tryz.func252, Tryz.ntmps252
  go_wp2_with fail
  refine hcon.mono ?_
  rintro e w1 ⟨rfl, hf⟩
  have P1 := PR.same h hf
  have hfd := P1.at_.fd n
  rw [HR.out] at hfd
  obtain ⟨_, hb, ho⟩ := hfd
  have hform : ∃ A c, (R.rc n).2 = .slice A r.bytes.length c ∧ r.bytes.length ≤ c ∧ c ≤ 9223372036854775807 ∧ (A = none → r.bytes.length = 0 ∧ c = 0) ∧ ∀ p, A = some p → ∃ g, p = ⟨g, 0, none⟩ := by
    rcases ho.2 with ⟨e, h0⟩ | ⟨gr, cap, cur, e, _, _, h1, h2, _⟩
    · exact ⟨none, 0, by rw [e, h0], by omega, by omega, (fun _ => ⟨h0, rfl⟩), fun p hp => by cases hp⟩
    · exact ⟨_, _, e, h1, by unfold maxLen at h2; omega, (fun hn => by cases hn), fun p hp => ⟨gr, by cases hp; rfl⟩⟩
  obtain ⟨A, c, hv, hc1, hc2, hA0, hA1⟩ := hform
  have c0 : w1.cell? ⟨(R.rc n).1, 0, none⟩ = some (R.rc n).2 := hb.cell 0
  rw [hv] at c0
  have HP := Lib.hid P1
  have HV := Lib.hid hv
  have HA0 := Lib.hid hA0
  have HA1 := Lib.hid hA1
  have b1 : (k : Int) ≤ (c : Int) := by omega
  have hkn : k ≤ r.bytes.length := by omega
  have HKN := Lib.hid hkn
  clear hcon h hf hv hb ho P1 hA0 hA1 hkn
  go_wp2_with fail
  refine (HST.out w1 HP.out.at_).mono ?_
  rintro e w2 ⟨rfl, h2, hf2⟩
  have P2 := HP.out.trans (PR.own h2 hf2 (step_same S).2.2.2.1)
  have hfd := h2.fd n
  rw [HR2.out] at hfd
  obtain ⟨_, hb, ho⟩ := hfd
  have d0 : w2.cell? ⟨(R.rc n).1, 0, none⟩ = some (R.rc n).2 := hb.cell 0
  rw [HV.out] at d0
  have d1 : w2.cell? ⟨(R.rc n).1, 1, none⟩ = some (.int .i64 r.firm) := hb.cell 1
  have f0 := hb.frozen 0
  have f1 := hb.frozen 1
  have HE := Lib.hid (cut_end P2 HR2.out HV.out HKN.out)
  have hmn := min_int r.firm k
  clear HST h2 hf2 HP P2 hb ho
  cases A with
  | none =>
    obtain ⟨e1, e2⟩ := HA0.out rfl
    have hk0 : k = 0 := by have := HKN.out; omega
    subst hk0 e2
    rw [e1] at d0
    have HZ := Lib.hid (show min (r.firm : Int) 0 = ((min r.firm 0 : Nat) : Int) by omega)
    clear e1 b1 hmn
    go_wp2
    go_ret
    rw [HZ.out]
    exact ⟨rfl, HE.out⟩
  | some p =>
    obtain ⟨g, rfl⟩ := HA1.out p rfl
    go_wp2
    go_ret
    exact ⟨rfl, HE.out⟩

theorem cut_any (d : Nat) (R : Rp) (S : AS) (l : List UInt8) (size : Int) (w : World) (h : At w d R S) (hW : WF S) (hl : l.length ≤ maxLen) :
    Calls Tryz.prog 252 #[.pointer (some ⟨d, 0, none⟩), .string ⟨l.toArray⟩, .int .i64 size] w fun e w' => e = .returned (.int .i64 (S.cut l size).2) ∧ Post d R S w (S.cut l size).1 w' := by
  unfold AS.cut
  by_cases hE : checkOf S.on [l] = 0
  · rw [if_pos hE]
    cases hn : look S.names l with
    | none =>
      refine (cut_err d l size _ 11 w (by decide) (find_none d R S l w h hl hE hn)).mono ?_
      rintro e w' ⟨he, hf⟩
      exact ⟨he, (PR.same h hf).post⟩
    | some n =>
      obtain ⟨r, hr⟩ := hW.ref l n hn
      simp only [hr]
      by_cases hs : size < 0 ∨ (r.bytes.length : Int) < size
      · rw [if_pos hs]
        exact (cut_arg d R S l size n r w h hW hl hE hn hr hs).mono fun e w' ⟨h1, h2⟩ => ⟨h1, h2.post⟩
      · rw [if_neg hs]
        obtain ⟨k, rfl⟩ : ∃ k : Nat, size = k := ⟨size.toNat, by omega⟩
        rcases stepE_01 S with he | he
        · rw [if_pos he]
          exact cut_ok d R S l k n r w h hW hl hE hn hr (by omega) he
        · rw [if_neg (by rw [he]; decide), he]
          exact (cut_out d R S l k n r w h hW hl hE hn hr (by omega) (by omega) he).mono fun e w' ⟨h1, h2⟩ => ⟨h1, h2.post⟩
  · rw [if_neg hE]
    refine (cut_err d l size _ _ w hE (find_bad d R S l _ w h hl rfl hE)).mono ?_
    rintro e w' ⟨he, hf⟩
    exact ⟨he, (PR.same h hf).post⟩

theorem WF.cut {S : AS} (h : WF S) (l : List UInt8) (size : Int) : WF (S.cut l size).1 := by
  unfold AS.cut
  by_cases hE : checkOf S.on [l] = 0
  · rw [if_pos hE]
    cases hn : look S.names l with
    | none => exact h
    | some n =>
      obtain ⟨r, hr⟩ := h.ref l n hn
      simp only [hr]
      split
      · exact h
      · split
        · have h1 := h.step
          obtain ⟨e1, e2, e3, e4, e5, e6⟩ := step_same S
          have hr1 : S.step.file n = some r := by rw [e4]; exact hr
          refine ⟨h1.left, h1.room, h1.last, fun l' m hm => ?_, fun m q hq => ?_⟩
          · obtain ⟨q, hq⟩ := h1.ref l' m hm
            show ∃ r', upd S.step.file n _ m = some r'
            by_cases e : m = n
            · subst e; exact ⟨_, upd_same _ _ _⟩
            · exact ⟨q, by rw [upd_other _ _ e]; exact hq⟩
          · have hq' : upd S.step.file n (some { bytes := r.bytes.take size.toNat, firm := min r.firm size.toNat }) m = some q := hq
            by_cases e : m = n
            · subst e
              rw [upd_same] at hq'
              cases hq'
              have := h1.file m r hr1
              simp only [List.length_take]
              refine ⟨this.1, this.2.1, ?_, ?_⟩ <;> omega
            · rw [upd_other _ _ e] at hq'
              exact h1.file m q hq'
        · exact h.step
  · rw [if_neg hE]; exact h

end Go.Proofs.YtccjkolcmdhliaaGreatDoor
