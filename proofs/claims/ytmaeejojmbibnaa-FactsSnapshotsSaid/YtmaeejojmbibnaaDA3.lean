/- The calls that only read: Len, has, Find, Text. Put: where nothing turns. -/
import Derived.Test.YtmaeejojmbibnaaDA2
namespace Go.Proofs.Ytmaeejojmbibnaa
open Go.RowKit Go.Maps
set_option linter.unusedVariables false

theorem own_form {w : World} {b n s : Nat} {e : TypeId} {v : Value} {xs : List Value} (h : w.ownsRow b e s v n xs) : ∃ A c, v = .slice A n c := by
  rcases h.2 with ⟨rfl, h0⟩ | ⟨g, cap, cur, rfl, _⟩
  · exact ⟨none, 0, by rw [h0]⟩
  · exact ⟨_, _, rfl⟩
/-- A row of one-cell elements that is not empty: its cells. -/
theorem own_cells {w : World} {b n : Nat} {e : TypeId} {v : Value} {xs : List Value} (h : w.ownsRow b e 1 v n xs) (hn : 0 < n) : ∃ g c, v = .slice (some ⟨g, 0, none⟩) n c ∧ g < w.heap.size ∧ ∀ j, j < n → w.cell? ⟨g, j, none⟩ = xs[j]? ∧ w.frozen? ⟨g, j, none⟩ = false := by
  obtain ⟨g, c, rfl, _, hg⟩ := h.form hn
  exact ⟨g, c, rfl, hg, fun j hj => ⟨h.cellAt j (by omega), h.frozenAt j⟩⟩
theorem At.text {w : World} {d : Nat} {R : Rp} {S : DS} (h : At w d R S) {n : Nat} (hn : n < S.L.length) : ∃ g c, R.tv = .slice (some ⟨g, 0, none⟩) S.L.length c ∧ g < w.heap.size ∧ w.cell? ⟨g, n, none⟩ = some (encT (txt S.L n)) := by
  obtain ⟨g, c, h1, h2, h3⟩ := own_cells h.texts (by omega)
  refine ⟨g, c, h1, h2, (h3 n hn).1.trans ?_⟩
  rw [txt_get hn]; simp [hn]
theorem len_le (w : World) {d : Nat} {R : Rp} {S : DS} (h : At w d R S) : S.L.length ≤ 9223372036854775807 := by
  rcases h.texts.2 with ⟨_, h0⟩ | ⟨g, cap, cur, _, _, _, h1, h2, _⟩
  · omega
  · unfold maxLen at h2; omega

/-! ### the table -/
def onI (o : Option Nat) : Int := match o with | some n => n | none => 0
theorem onI_num {L : List Tx} {t : Tx} : (numI L t).getD 0 = onI (num L t) := by unfold numI onI; cases num L t <;> rfl
theorem run_look {w : World} {m : Option Nat} {D : DU} (h : MapAt w Try.prog 9 (plainElem Try.prog 3) m D) {l : List UInt8} (hl : l.length ≤ maxLen) :
    (Instr.lookup 87 (.map m) (.string ⟨l.toArray⟩) true).run Try.prog w = .ok (.tuple #[.int .i64 ((look D l).getD 0), .bool (look D l).isSome]) w := by
  cases m with
  | none =>
    have hD : D = .map [] := h
    subst hD
    rw [look_empty]
    exact Maps.look_nil (P := Try.prog) true law9 Try.underlying87 (Try.zeroValue3 w) (key9 l hl)
  | some b =>
    have h : w.ownsMap Try.prog 9 (plainElem Try.prog 3) b (Maps.size D) D := h
    have hi := owns_ints h
    obtain ⟨v, ps, hr, hv⟩ := h.look_ok law9 Try.underlying87 (Try.zeroValue3 w) (plainElem_int Try.underlying3 (by decide)) (key9 l hl)
    cases hc : look D l with
    | none =>
      have hh : has D (.string l) = false := by rw [has_look hi, hc]; rfl
      rw [atKey_of_not_has hh] at hv
      obtain ⟨c', rfl, hc', _⟩ := plainElem_int_inv Try.underlying3 hv
      have : (0 : Int) = c' := by simpa using congrArg Prod.fst hc'
      subst this
      rw [hr, hh]; rfl
    | some c =>
      rw [look_some hi hc] at hv
      obtain ⟨c', rfl, hc', _⟩ := plainElem_int_inv Try.underlying3 hv
      have : c = c' := by simpa using congrArg Prod.fst hc'
      subst this
      rw [hr, has_look hi, hc]; rfl

section
variable (d : Nat) (R : Rp) (S : DS) (w : World)
theorem len_any (h : At w d R S) : Calls Try.prog 43 #[.pointer (some ⟨d, 0, none⟩)] w fun e w' => e = .returned (.int .i64 (S.L.length : Nat)) ∧ w = w' := by
  have c0 := h.cells.1
  obtain ⟨A, c, e⟩ := own_form h.texts
  rw [e] at c0
  clear e h
  go_enter Try.func43, Try.ntmps43
  go_wp2
  go_ret
  exact ⟨rfl, rfl⟩
theorem len_nil : Calls Try.prog 43 #[.pointer none] w fun e w' => e = .returned (.int .i64 0) ∧ w = w' := by
  go_enter Try.func43, Try.ntmps43
  go_wp2
  go_ret
  exact ⟨rfl, rfl⟩

theorem has_in (h : At w d R S) (n : Nat) (hn : n < S.L.length) : Calls Try.prog 55 #[.pointer (some ⟨d, 0, none⟩), .int .i64 n] w fun e w' => e = .returned (.bool true) ∧ w = w' := by
  have H := Lib.hid (len_any d R S w h)
  have hb := len_le w h
  clear h
  go_enter Try.func55, Try.ntmps55
  go_wp2_with (go_at_call 43; refine H.out.mono ?_; rintro e w' ⟨rfl, rfl⟩)
  go_ret
  exact ⟨ret_bool (by simp), rfl⟩
theorem has_out (h : At w d R S) (n : Int) (hn : n < 0 ∨ (S.L.length : Int) ≤ n) : Calls Try.prog 55 #[.pointer (some ⟨d, 0, none⟩), .int .i64 n] w fun e w' => e = .returned (.bool false) ∧ w = w' := by
  have H := Lib.hid (len_any d R S w h)
  have hb := len_le w h
  clear h
  by_cases h0 : n < 0
  · clear hn
    go_enter Try.func55, Try.ntmps55
    go_wp2
    go_ret
    exact ⟨rfl, rfl⟩
  · have h1 : (S.L.length : Int) ≤ n := by omega
    have h0' : 0 ≤ n := by omega
    clear hn h0
    go_enter Try.func55, Try.ntmps55
    go_wp2_with (go_at_call 43; refine H.out.mono ?_; rintro e w' ⟨rfl, rfl⟩)
    go_ret
    exact ⟨ret_bool (by simpa using h1), rfl⟩
theorem has_nil (n : Int) : Calls Try.prog 55 #[.pointer none, .int .i64 n] w fun e w' => e = .returned (.bool false) ∧ w = w' := by
  have H := Lib.hid (len_nil w)
  by_cases h0 : n < 0
  · go_enter Try.func55, Try.ntmps55
    go_wp2
    go_ret
    exact ⟨rfl, rfl⟩
  · have h0' : 0 ≤ n := by omega
    clear h0
    go_enter Try.func55, Try.ntmps55
    go_wp2_with (go_at_call 43; refine H.out.mono ?_; rintro e w' ⟨rfl, rfl⟩)
    go_ret
    exact ⟨ret_bool (by simpa using h0'), rfl⟩

def TextP (v : Value) (b : Bool) (w : World) (e : Ending) (w' : World) : Prop := e = .returned (.tuple #[v, .bool b]) ∧ w = w'
theorem text_in (h : At w d R S) (n : Nat) (hn : n < S.L.length) : Calls Try.prog 52 #[.pointer (some ⟨d, 0, none⟩), .int .i64 n] w (TextP (encT (txt S.L n)) true w) := by
  have H := Lib.hid (has_in d R S w h n hn)
  have hb := len_le w h
  have c0 := h.cells.1
  obtain ⟨g, c, e, _, hc⟩ := h.text hn
  rw [e] at c0
  clear e h
  generalize encT (txt S.L n) = v at *
  go_enter Try.func52, Try.ntmps52
  go_wp2_with (go_at_call 55; refine H.out.mono ?_; rintro e w' ⟨rfl, rfl⟩)
  go_ret2
  exact ⟨rfl, rfl⟩
theorem text_out (p : Option Addr) (n : Int) (hh : Calls Try.prog 55 #[.pointer p, .int .i64 n] w fun e w' => e = .returned (.bool false) ∧ w = w') : Calls Try.prog 52 #[.pointer p, .int .i64 n] w (TextP (.string ⟨#[]⟩) false w) := by
  have H := Lib.hid hh
  clear hh
  go_enter Try.func52, Try.ntmps52
  go_wp2_with (go_at_call 55; refine H.out.mono ?_; rintro e w' ⟨rfl, rfl⟩)
  go_ret2
  exact ⟨rfl, rfl⟩
theorem find_nil (s : ByteArray) : Calls Try.prog 44 #[.pointer none, .string s] w (TextP (.int .i64 0) false w) := by
  go_enter Try.func44, Try.ntmps44
  go_wp2
  go_ret2
  exact ⟨rfl, rfl⟩
theorem find_any (h : At w d R S) (t : Tx) (hl : t.length ≤ maxLen) : Calls Try.prog 44 #[.pointer (some ⟨d, 0, none⟩), encT t] w (TextP (.int .i64 (onI (num S.L t))) (num S.L t).isSome w) := by
  have c1 := h.cells.2.1
  have hr := run_look h.names hl
  have e1 : (look R.D t).getD 0 = onI (num S.L t) := by rw [h.lk, onI_num]
  have e2 : (look R.D t).isSome = (num S.L t).isSome := by rw [h.lk]; unfold numI; cases num S.L t <;> rfl
  rw [e1, e2] at hr
  clear e1 e2 h
  unfold encT
  generalize onI (num S.L t) = x at *
  generalize (num S.L t).isSome = y at *
  go_enter Try.func44, Try.ntmps44
  go_wp2
  go_ret2
  exact ⟨rfl, rfl⟩

/-! ### Put, where nothing turns -/
def PutP (n : Int) (x : Int) (w : World) (e : Ending) (w' : World) : Prop := e = .returned (.tuple #[.int .i64 n, .int .i64 x]) ∧ w = w'
theorem put_nil (s : ByteArray) : Calls Try.prog 53 #[.pointer none, .string s] w (PutP 0 1 w) := by
  go_enter Try.func53, Try.ntmps53
  go_wp2
  go_ret2
  exact ⟨rfl, rfl⟩
theorem put_long (t : Tx) (hl : 64 < t.length) (hm : t.length ≤ maxLen) : Calls Try.prog 53 #[.pointer (some ⟨d, 0, none⟩), encT t] w (PutP 0 45 w) := by
  unfold encT
  have hs : (⟨t.toArray⟩ : ByteArray).size = t.length := by simp [ByteArray.size]
  generalize (⟨t.toArray⟩ : ByteArray) = s at *
  have hs' : 64 < s.size := by omega
  unfold maxLen at hm
  have hs2 : s.size ≤ 9223372036854775807 := by omega
  clear hs hl hm
  go_enter Try.func53, Try.ntmps53
  go_wp2
  go_ret2
  exact ⟨rfl, rfl⟩
set_option maxRecDepth 100000 in
theorem put_old (h : At w d R S) (t : Tx) (hl : t.length ≤ 64) {n : Nat} (hn : num S.L t = some n) : Calls Try.prog 53 #[.pointer (some ⟨d, 0, none⟩), encT t] w (PutP n 0 w) := by
  have c1 := h.cells.2.1
  have hr := run_look h.names (l := t) (by unfold maxLen; omega)
  have e1 : look R.D t = some (n : Int) := by rw [h.lk, numI, hn]; rfl
  rw [e1] at hr
  simp only [Option.getD_some, Option.isSome_some] at hr
  clear e1 h hn
  unfold encT
  have hs : (⟨t.toArray⟩ : ByteArray).size ≤ 64 := size_le hl
  generalize (⟨t.toArray⟩ : ByteArray) = s at *
  clear hl
  go_enter Try.func53, Try.ntmps53
  go_wp2
  go_ret2
  exact ⟨rfl, rfl⟩
set_option maxRecDepth 100000 in
theorem put_full (h : At w d R S) (t : Tx) (hl : t.length ≤ 64) (hn : num S.L t = none) (hf : S.L.length = 4096) : Calls Try.prog 53 #[.pointer (some ⟨d, 0, none⟩), encT t] w (PutP 0 12 w) := by
  have c1 := h.cells.2.1
  have hr := run_look h.names (l := t) (by unfold maxLen; omega)
  have e1 : look R.D t = none := by rw [h.lk, numI, hn]; rfl
  rw [e1] at hr
  simp only [Option.getD_none, Option.isSome_none] at hr
  have c0 := h.cells.1
  obtain ⟨A, c, e⟩ := own_form h.texts
  rw [e, hf] at c0
  clear e1 h hn e hf
  unfold encT
  have hs : (⟨t.toArray⟩ : ByteArray).size ≤ 64 := size_le hl
  generalize (⟨t.toArray⟩ : ByteArray) = s at *
  clear hl
  go_enter Try.func53, Try.ntmps53
  go_wp2
  go_ret2
  exact ⟨rfl, rfl⟩
end
end Go.Proofs.Ytmaeejojmbibnaa
