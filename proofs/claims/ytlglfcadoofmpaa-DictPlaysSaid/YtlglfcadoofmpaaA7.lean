/- sync.Once: the order is made once; Sorted, Rank. -/
import Derived.Test.YtlglfcadoofmpaaA6
import Derived.Laws.LoneSync
import Derived.Laws.Pointers
import Derived.Defers
import Derived.RegionTactic
import Derived.RegionCalls
import Derived.ChangeAlike
namespace Go.Proofs.Ytlglfcadoofmpaa
open Go.RowKit Go.Maps
set_option linter.unusedVariables false

/-! ### the parts of sync.Once -/
theorem disable (w : World) : (callFunc 67 #[]).run Try.prog w = .ok (.value (.tuple #[])) w := run_call_mark0 Try.func67 (by kernel_rfl) (by kernel_rfl) (by kernel_rfl) .disable (by kernel_rfl) w
theorem enable (w : World) : (callFunc 69 #[]).run Try.prog w = .ok (.value (.tuple #[])) w := run_call_mark0 Try.func69 (by kernel_rfl) (by kernel_rfl) (by kernel_rfl) .enable (by kernel_rfl) w
theorem acquire (a : Addr) (w : World) : (callFunc 70 #[.pointer (some a)]).run Try.prog w = .ok (.value (.tuple #[])) w := run_call_marked Try.func70 (by kernel_rfl) (by kernel_rfl) (by kernel_rfl) .acquire (by kernel_rfl) a w
theorem releaseMerge (a : Addr) (w : World) : (callFunc 72 #[.pointer (some a)]).run Try.prog w = .ok (.value (.tuple #[])) w := run_call_marked Try.func72 (by kernel_rfl) (by kernel_rfl) (by kernel_rfl) .releaseMerge (by kernel_rfl) a w

theorem store_deferred (a : Addr) (x : Value) (u : FrameMode) (w : World) (hc : w.cell? a = some x) (hz : w.frozen? a = false) :
    CallsD Try.prog 47 #[.pointer (some a), .bool true] u w fun e u' w' => u' = u ∧ (e = .returned (.tuple #[]) ∧ w' = w.drew.setCell a (.int .u32 1)) := by
  have hc' : w.drew.cell? a = some x := by go_simp
  have hz' : w.drew.frozen? a = false := by go_simp
  have hst := run_call_store (P := Try.prog) Try.func54 (by kernel_rfl) (by kernel_rfl) (by kernel_rfl) (by kernel_rfl) (k := .u32) (y := 1) hc' hz'
  go_enter_d Try.func47, Try.ntmps47
  go_wp2
  go_region_calls
  all_goals (go_end0; exact ⟨rfl, rfl⟩)

set_option maxRecDepth 100000 in
set_option maxHeartbeats 1600000 in
theorem unlock_in (a : Addr) (w : World) (hc : w.cell? a = some (.int .i32 1)) (hz : w.frozen? a = false) :
    Calls Try.prog 53 #[.pointer (some a)] w fun e w' => e = .returned (.tuple #[]) ∧ w' = w.setCell a (.int .i32 0) := by
  have hd := disable
  have he := enable
  have hr := releaseMerge
  have hadd := run_call_add (P := Try.prog) Try.func73 (by kernel_rfl) (by kernel_rfl) (by kernel_rfl) .i32 (by kernel_rfl) (y := -1) (s := 0) hc hz (by simp [go_sem]; rfl)
  have hcv := run_convert_to_unsafe (P := Try.prog) (src := 105) (dst := 109) Try.underlying105 Try.underlying109 (by kernel_rfl) hc
  go_enter Try.func53, Try.ntmps53
  go_wp2
  first | go_end0 | (simp only [Exit.inBlock, Exit.then]; refine bodyPost_ret (results_none rfl _ _ _) rfl ?_) | refine bodyPost_ret (results_none rfl _ _ _) rfl ?_
  all_goals try go_wp2
  all_goals try go_end0
  all_goals exact ⟨rfl, rfl⟩

set_option maxRecDepth 100000 in
set_option maxHeartbeats 1600000 in
theorem lock_in (a : Addr) (w : World) (hc : w.cell? a = some (.int .i32 0)) (hz : w.frozen? a = false) :
    Calls Try.prog 52 #[.pointer (some a)] w fun e w' => e = .returned (.tuple #[]) ∧ w' = w.setCell a (.int .i32 1) := by
  have hd := disable
  have he := enable
  have ha := acquire
  have hcas := run_call_cas_hit (P := Try.prog) Try.func68 (by kernel_rfl) (by kernel_rfl) (by kernel_rfl) .i32 (by kernel_rfl) (y := 1) hc hz
  have hc' : (w.setCell a (.int .i32 1)).cell? a = some (.int .i32 1) := World.cell?_setCell_same w a _ hc
  have hcv := run_convert_to_unsafe (P := Try.prog) (src := 105) (dst := 109) Try.underlying105 Try.underlying109 (by kernel_rfl) hc'
  go_enter Try.func52, Try.ntmps52
  go_wp2
  first | go_end0 | (simp only [Exit.inBlock, Exit.then]; refine bodyPost_ret (results_none rfl _ _ _) rfl ?_) | refine bodyPost_ret (results_none rfl _ _ _) rfl ?_
  all_goals try go_wp2
  all_goals try go_end0
  all_goals exact ⟨rfl, rfl⟩
theorem lock_free (b o : Nat) (w : World) (hc : w.cell? ⟨b, o, none⟩ = some (.int .i32 0)) (hz : w.frozen? ⟨b, o, none⟩ = false) :
    Calls Try.prog 45 #[.pointer (some ⟨b, o, none⟩)] w fun e w' => e = .returned (.tuple #[]) ∧ w' = w.setCell ⟨b, o, none⟩ (.int .i32 1) := by
  have hl := Lib.hid (lock_in ⟨b, o, none⟩ w hc hz)
  clear hc hz
  go_enter Try.func45, Try.ntmps45
  go_wp2_with (go_at_call 52; refine hl.out.mono ?_; rintro e w' ⟨rfl, rfl⟩)
  go_end0
  exact ⟨rfl, rfl⟩
theorem unlock_deferred (b o : Nat) (u : FrameMode) (w : World) (hc : w.cell? ⟨b, o, none⟩ = some (.int .i32 1)) (hz : w.frozen? ⟨b, o, none⟩ = false) :
    CallsD Try.prog 46 #[.pointer (some ⟨b, o, none⟩)] u w fun e u' w' => u' = u ∧ (e = .returned (.tuple #[]) ∧ w' = w.setCell ⟨b, o, none⟩ (.int .i32 0)) := by
  have hl := Lib.hid (unlock_in ⟨b, o, none⟩ w hc hz)
  clear hc hz
  go_enter_d Try.func46, Try.ntmps46
  go_wp2_with (go_at_call 53; refine hl.out.mono ?_; rintro e w' ⟨rfl, rfl⟩)
  go_end0
  exact ⟨rfl, rfl⟩

theorem load_any (b o : Nat) (d : Int) (w : World) (h0 : w.cell? ⟨b, o, none⟩ = some (.int .u32 d)) :
    Calls Try.prog 35 #[.pointer (some ⟨b, o, none⟩)] w fun e w' => e = .returned (.bool (d != 0)) ∧ w = w' := by
  have hl := run_call_load (P := Try.prog) Try.func44 (by kernel_rfl) (by kernel_rfl) (by kernel_rfl) .u32 (by kernel_rfl) h0
  go_enter Try.func35, Try.ntmps35
  go_wp2
  go_ret
  exact ⟨rfl, rfl⟩
theorem load_0 (b o : Nat) (w : World) (h0 : w.cell? ⟨b, o, none⟩ = some (.int .u32 0)) :
    Calls Try.prog 35 #[.pointer (some ⟨b, o, none⟩)] w fun e w' => e = .returned (.bool false) ∧ w = w' := load_any b o 0 w h0
theorem load_1 (b o : Nat) (w : World) (h0 : w.cell? ⟨b, o, none⟩ = some (.int .u32 1)) :
    Calls Try.prog 35 #[.pointer (some ⟨b, o, none⟩)] w fun e w' => e = .returned (.bool true) ∧ w = w' := load_any b o 1 w h0


/-! ### the order is made -/
def DS.lock (S : DS) (m : Int) : DS := { S with mu := m }
def DS.did (S : DS) : DS := { S with done := true }
theorem At.lock {w : World} {d : Nat} {R : Rp} {S : DS} (h : At w d R S) (m : Int) : At (w.setCell ⟨d, 3, none⟩ (.int .i32 m)) d R (S.lock m) :=
  h.own (Fr.set0 d w 3 _) (h.blk.set_ 3 _) rfl rfl rfl
theorem At.did {w : World} {d : Nat} {R : Rp} {S : DS} (h : At w d R S) : At (w.drew.setCell ⟨d, 2, none⟩ (.int .u32 1)) d R S.did :=
  h.own ((Fr.refl _ w).drew.set1 2 _) (Blk.set_ (w := w.drew) h.blk 2 _) rfl rfl rfl

def DoQ (d : Nat) (R : Rp) (S : DS) (w : World) (e : Ending) (w' : World) : Prop :=
  e = .returned (.tuple #[]) ∧ ∃ S' : DS, S'.L = S.L ∧ S'.done = true ∧ WF S' ∧ Post d R w S' w'

set_option maxRecDepth 100000 in
set_option maxHeartbeats 1600000 in
theorem slow_any (d : Nat) (R : Rp) (S : DS) (w : World) (h : At w d R S) (hW : WF S) (hd : S.done = false) :
    Calls Try.prog 36 #[.pointer (some ⟨d, 2, none⟩), .func (.func 27) #[.pointer (some ⟨d, 0, none⟩)] #[]] w (DoQ d R S w) := by
  have c3 : w.cell? ⟨d, 3, none⟩ = some (.int .i32 0) := by rw [h.cells.2.2.2.1, hW.mu]
  have f3 := h.blk.frozen 3
  obtain ⟨w1, hw1⟩ : ∃ w1, w.setCell ⟨d, 3, none⟩ (.int .i32 1) = w1 := ⟨_, rfl⟩
  have h1 : At w1 d R (S.lock 1) := by rw [← hw1]; exact h.lock 1
  have hf1 : Fr (foot d R) w w1 := by rw [← hw1]; exact (Fr.set0 d w 3 _).mono fun k _ hk => .inl hk
  have c2 : w1.cell? ⟨d, 2, none⟩ = some (.int .u32 0) := by rw [h1.cells.2.2.1]; show some (Value.int .u32 (oneN S.done)) = _; rw [hd]; rfl
  have HL : Hid (Calls Try.prog 45 #[.pointer (some ⟨d, 3, none⟩)] w fun e w' => e = .returned (.tuple #[]) ∧ w' = w1) := Lib.hid (by rw [← hw1]; exact lock_free d 3 w c3 f3)
  have HF := Lib.hid (order_any d R (S.lock 1) w1 h1 hW.nd hW.le hW.sp hW.sl)
  have H0 := Lib.hid (load_0 d 2 w1 c2)
  have HR := Lib.hid hf1
  have HW := Lib.hid hW
  have hnot : ∀ (x : Bool) (w : World), (Op.unary .not (.bool x)).run Try.prog w = .ok (.bool (!x)) w := fun _ _ => rfl
  clear hw1 h1 hf1 c2 c3 f3 h hW hd
  go_enter_defers Try.func36, Try.ntmps36
  go_wp2_with (first | (go_at_call 45; refine HL.out.mono ?_; rintro e w' ⟨rfl, rfl⟩) | (go_at_call 35; refine H0.out.mono ?_; rintro e w' ⟨rfl, rfl⟩) | (go_at_call 27; refine HF.out.mono ?_; rintro e w' ⟨rfl, S2, eL, eD, eM, hO, hK, hP⟩))
  go_wp2
  obtain ⟨R2, h2, hf2, hg2⟩ := hP
  have d2 : w'.cell? ⟨d, 2, none⟩ = some (.int .u32 (oneN S2.done)) := h2.cells.2.2.1
  have hfz := h2.blk.frozen 2
  refine leaves_cons (f := 47) (args := #[.pointer (some ⟨d, 2, none⟩), .bool true]) (by simp) (by simp [go_sem]) ?_
  refine (store_deferred ⟨d, 2, none⟩ _ .returning _ d2 hfz).mono ?_
  rintro e u' w'' ⟨rfl, rfl, rfl⟩
  have h3 := h2.did
  have hf3 : Fr (foot d R2) w' (w'.drew.setCell ⟨d, 2, none⟩ (.int .u32 1)) := ((Fr.refl _ w').drew.set1 2 _).mono fun k _ hk => .inl hk
  obtain ⟨w3, hw3⟩ : ∃ w3, w'.drew.setCell ⟨d, 2, none⟩ (.int .u32 1) = w3 := ⟨_, rfl⟩
  rw [hw3] at h3 hf3 ⊢
  have d3 : w3.cell? ⟨d, 3, none⟩ = some (.int .i32 1) := by rw [h3.cells.2.2.2.1]; show some (Value.int .i32 S2.mu) = _; rw [eM]; rfl
  refine leaves_cons (f := 46) (args := #[.pointer (some ⟨d, 3, none⟩)]) (by simp [settle]) (by simp [go_sem]) ?_
  refine (unlock_deferred d 3 _ _ d3 (h3.blk.frozen 3)).mono ?_
  rintro e u' w'' ⟨rfl, rfl, rfl⟩
  have hm : DoQ d R S w (.returned (.tuple #[])) (w3.setCell ⟨d, 3, none⟩ (.int .i32 0)) := by
    have hlen : S2.S.length = S2.L.length := hO.len
    have eL' : S2.L = S.L := eL
    refine ⟨rfl, (S2.did.lock 0), eL', rfl, ⟨by rw [show (S2.did.lock 0).L = S.L from eL']; exact HW.out.nd, by rw [show (S2.did.lock 0).L = S.L from eL']; exact HW.out.le, by rw [show (S2.did.lock 0).L = S.L from eL']; exact HW.out.tx, ?_, ?_, ?_, fun _ => ⟨hO, hK⟩, rfl⟩, ?_⟩
    · show S2.S.Perm (List.range S2.S.length); rw [hlen]; exact hO.perm
    · show S2.S.length ≤ S2.L.length; omega
    · show S2.K.length ≤ 4096; rw [hK.len, hlen, eL']; exact HW.out.le
    · refine Post.trans HR.out (fun k hk => .inl hk) (Post.trans hf2 hg2 (Post.trans hf3 (fun k hk => .inl hk) ⟨R2, h3.lock 0, (Fr.set0 d w3 3 _).mono fun k _ hk => .inl hk, fun k hk => .inl hk⟩))
  simp [Leaves, settle, results, Try.results36]
  exact hm
set_option maxHeartbeats 1600000 in
theorem do_first (d : Nat) (R : Rp) (S : DS) (w : World) (h : At w d R S) (hW : WF S) (hd : S.done = false) :
    Calls Try.prog 26 #[.pointer (some ⟨d, 2, none⟩), .func (.func 27) #[.pointer (some ⟨d, 0, none⟩)] #[]] w (DoQ d R S w) := by
  have H0 := Lib.hid (load_0 d 2 w (by rw [h.cells.2.2.1, hd]; rfl))
  have HS := Lib.hid (slow_any d R S w h hW hd)
  have hnot : ∀ (x : Bool) (w : World), (Op.unary .not (.bool x)).run Try.prog w = .ok (.bool (!x)) w := fun _ _ => rfl
  clear h hW hd
  go_enter Try.func26, Try.ntmps26
  go_wp2_with (first | (go_at_call 35; refine H0.out.mono ?_; rintro e w' ⟨rfl, rfl⟩) | (go_at_call 36; refine HS.out.mono ?_; rintro e w' ⟨rfl, hq⟩))
  go_end0
  exact ⟨rfl, hq⟩
theorem do_done (d : Nat) (R : Rp) (S : DS) (fv : Value) (w : World) (h : At w d R S) (hW : WF S) (hd : S.done = true) :
    Calls Try.prog 26 #[.pointer (some ⟨d, 2, none⟩), fv] w (DoQ d R S w) := by
  have H0 := Lib.hid (load_1 d 2 w (by rw [h.cells.2.2.1, hd]; rfl))
  have hnot : ∀ (x : Bool) (w : World), (Op.unary .not (.bool x)).run Try.prog w = .ok (.bool (!x)) w := fun _ _ => rfl
  have HQ : Hid (DoQ d R S w (.returned (.tuple #[])) w) := Lib.hid ⟨rfl, S, rfl, hd, hW, Post.refl h⟩
  clear h hW hd
  go_enter Try.func26, Try.ntmps26
  go_wp2_with (go_at_call 35; refine H0.out.mono ?_; rintro e w' ⟨rfl, rfl⟩)
  go_end0
  exact HQ.out
theorem do_any (d : Nat) (R : Rp) (S : DS) (w : World) (h : At w d R S) (hW : WF S) :
    Calls Try.prog 26 #[.pointer (some ⟨d, 2, none⟩), .func (.func 27) #[.pointer (some ⟨d, 0, none⟩)] #[]] w (DoQ d R S w) := by
  cases hd : S.done with
  | false => exact do_first d R S w h hW hd
  | true => exact do_done d R S _ w h hW hd

/-! ### Sorted, Rank -/
theorem enc_one {l : List Nat} : ∀ u ∈ l.map encN, u.oneCell' = true := by
  intro u hu
  obtain ⟨n, _, rfl⟩ := List.mem_map.1 hu
  rfl
/-- What a call that tells a list leaves: a row of one's own, apart from the dictionary. -/
def ListQ (d : Nat) (R : Rp) (S : DS) (l : DS → List Nat) (w : World) (e : Ending) (w' : World) : Prop :=
  ∃ (v : Value) (S' : DS) (R' : Rp), e = .returned v ∧ S'.L = S.L ∧ WF S' ∧ Ord S'.L S'.S ∧ w'.ownsRow w.heap.size 3 1 v (l S').length ((l S').map encN) ∧
    At w' d R' S' ∧ Fr (foot d R) w w' ∧ (∀ k, foot d R' k → foot d R k ∨ w.heap.size ≤ k) ∧ ∀ k, v.ownBlock = some k → ¬ foot d R' k

theorem iclone_row (w : World) (v : Value) (n : Nat) (xs : List Value) (h : w.ownsRow 0 3 1 v n xs) (hn : n ≤ 4096) (h1 : ∀ u ∈ xs, u.oneCell' = true) :
    Calls Try.prog 28 #[v] w fun e w' => ∃ v', e = .returned v' ∧ w'.ownsRow w.heap.size 3 1 v' n xs ∧ Below w.heap.size w w' := by
  rcases h.2 with ⟨rfl, h0⟩ | ⟨g, cap, cur, rfl, _, _⟩
  · refine (iclone_nil w).mono ?_
    rintro e w' ⟨rfl, rfl⟩
    subst h0
    have hx : xs = [] := List.length_eq_zero_iff.1 (by have := h.1; omega)
    subst hx
    exact ⟨_, rfl, World.ownsRow_nil _ _ _ _, Below.refl _ _⟩
  · refine iclone_any g 0 n cap xs w (by have := h.1; omega) (by omega) (fun j u hj => ?_) h1
    have hj2 : j < n := by have := (List.getElem?_eq_some_iff.1 hj).1; have := h.1; omega
    rw [Nat.zero_add]
    exact (h.cellAt j (by omega)).trans hj

set_option maxHeartbeats 1600000 in
theorem sorted_any (d : Nat) (R : Rp) (S : DS) (w : World) (h : At w d R S) (hW : WF S) : Calls Try.prog 13 #[.pointer (some ⟨d, 0, none⟩)] w (ListQ d R S (·.S) w) := by
  have HD := Lib.hid (do_any d R S w h hW)
  have hmf : ∀ (fn : Fn) (first cap : Array Value) (w : World), (Instr.makeFunc fn first cap).run Try.prog w = .ok (.func fn first cap) w := fun _ _ _ _ => rfl
  have HH := Lib.hid h
  clear h hW
  go_enter Try.func13, Try.ntmps13
  go_wp2_with fail
  refine HD.out.mono ?_
  rintro e w1 ⟨rfl, S1, eL, eD, hW1, hP⟩
  obtain ⟨R1, h1, hf1, hg1⟩ := hP
  have c5 := h1.cells.2.2.2.2.2.1
  have hcl := iclone_row w1 R1.sv S1.S.length (S1.S.map encN) h1.sorted (Nat.le_trans hW1.sl hW1.le) enc_one
  have HC := Lib.hid hcl
  have hfin : ∀ (v : Value) (w2 : World), w2.ownsRow w1.heap.size 3 1 v S1.S.length (S1.S.map encN) → Below w1.heap.size w1 w2 → ListQ d R S (·.S) w (.returned v) w2 := by
    intro v w2 ho hb
    have h2 := h1.below hb
    exact ⟨v, S1, R1, rfl, eL, hW1, (hW1.dn eD).1, own_base ho hf1.size, h2, hf1.trans (Fr.of_below hb).any fun _ _ h => h, hg1, fun k hk hf => by
      have := h1.lt k hf
      have := (ho.lt k hk).1
      omega⟩
  have HFIN := Lib.hid hfin
  clear hcl h1 hf1 hg1 hfin eL eD hW1
  go_wp2_with (go_at_call 28; refine HC.out.mono ?_; rintro e w2 ⟨v, rfl, ho, hb⟩)
  go_ret
  exact HFIN.out _ _ ho hb
theorem sorted_nil (w : World) : Calls Try.prog 13 #[.pointer none] w fun e w' => e = .returned (.slice none 0 0) ∧ w = w' := by
  go_enter Try.func13, Try.ntmps13
  go_wp2
  go_ret
  exact ⟨rfl, rfl⟩

def RankQ (d : Nat) (R : Rp) (S : DS) (n : Nat) (w : World) (e : Ending) (w' : World) : Prop :=
  ∃ (S' : DS) (k : Nat), e = .returned (.tuple #[.int .i64 k, .bool true]) ∧ S'.L = S.L ∧ WF S' ∧ Ord S'.L S'.S ∧ S'.S[k]? = some n ∧ Post d R w S' w'
set_option maxHeartbeats 1600000 in
theorem rank_in (d : Nat) (R : Rp) (S : DS) (w : World) (h : At w d R S) (hW : WF S) (n : Nat) (hn : n < S.L.length) : Calls Try.prog 18 #[.pointer (some ⟨d, 0, none⟩), .int .i64 n] w (RankQ d R S n w) := by
  have HH := Lib.hid (has_in d R S w h n hn)
  have HD := Lib.hid (do_any d R S w h hW)
  have hmf : ∀ (fn : Fn) (first cap : Array Value) (w : World), (Instr.makeFunc fn first cap).run Try.prog w = .ok (.func fn first cap) w := fun _ _ _ _ => rfl
  clear h hW
  go_enter Try.func18, Try.ntmps18
  go_wp2_with (go_at_call 30; refine HH.out.mono ?_; rintro e w' ⟨rfl, rfl⟩)
  go_wp2_with fail
  refine HD.out.mono ?_
  rintro e w1 ⟨rfl, S1, eL, eD, hW1, hP⟩
  obtain ⟨R1, h1, hf1, hg1⟩ := hP
  obtain ⟨hO, hK⟩ := hW1.dn eD
  have c6 := h1.cells.2.2.2.2.2.2
  have hkl : S1.K.length = S1.L.length := by rw [hK.len, hO.len]
  have hnl : n < S1.L.length := by rw [eL]; exact hn
  obtain ⟨k, hk, hkn⟩ : ∃ k, k < S1.S.length ∧ S1.S[k]? = some n := by
    obtain ⟨k, hk, e⟩ := List.getElem_of_mem (hO.mem hnl)
    exact ⟨k, hk, by rw [List.getElem?_eq_getElem hk, e]⟩
  obtain ⟨gk, c, ek, _, hck⟩ := own_cells h1.ranks (by omega)
  rw [ek, hkl, eL] at c6
  have ck : w1.cell? ⟨gk, n, none⟩ = some (.int .i64 k) := (hck n (by omega)).1.trans (by rw [List.getElem?_map, hK.at_ k n hkn]; rfl)
  have HFIN : Hid (RankQ d R S n w (.returned (.tuple #[.int .i64 k, .bool true])) w1) := Lib.hid ⟨S1, k, rfl, eL, hW1, hO, hkn, R1, h1, hf1, hg1⟩
  have hb : S.L.length ≤ 9223372036854775807 := by have := hW1.le; rw [eL] at this; omega
  clear h1 hf1 hg1 eL eD hW1 hO hK hkl hnl hk hkn ek hck
  go_wp2
  go_ret2
  exact HFIN.out

/-! ### New, a zero one -/
def NewQ (w : World) (e : Ending) (w' : World) : Prop := ∃ R, e = .returned (.pointer (some ⟨w.heap.size, 0, none⟩)) ∧ At w' w.heap.size R .new ∧ Fr No w w' ∧ ∀ k, foot w.heap.size R k → w.heap.size ≤ k
def Rp.new : Rp := ⟨.slice none 0 0, none, .slice none 0 0, .slice none 0 0, .map []⟩
def zeroD : Array Value := #[.slice none 0 0, .map none, .int .u32 0, .int .i32 0, .int .u32 0, .slice none 0 0, .slice none 0 0]
theorem At.new {w : World} {d : Nat} (h : Blk w d 65 zeroD) : At w d .new .new where
  blk := h
  texts := World.ownsRow_nil _ _ _ _
  names := rfl
  lk t := rfl
  sz := by decide
  sorted := World.ownsRow_nil _ _ _ _
  ranks := World.ownsRow_nil _ _ _ _
  ap k h := by simp [Rp.new, Value.ownBlock] at h
theorem foot_new {d k : Nat} (h : foot d .new k) : k = d := by
  rcases h with h | h | h | h | h
  · exact h
  all_goals simp [Rp.new, Value.ownBlock] at h
theorem new_at (w : World) : NewQ w (.returned (.pointer (some ⟨w.heap.size, 0, none⟩))) (w.alloc (.cells zeroD 65)) :=
  ⟨.new, rfl, At.new (Blk.new w 65 zeroD), (Fr.refl _ w).alloc _, fun k hk => by rw [foot_new hk]; exact Nat.le_refl _⟩
theorem new_any (w : World) : Calls Try.prog 9 #[] w (NewQ w) := by
  have HN := Lib.hid (new_at w)
  unfold zeroD at HN
  go_enter Try.func9, Try.ntmps9
  go_wp2
  go_ret
  exact HN.out
end Go.Proofs.Ytlglfcadoofmpaa
