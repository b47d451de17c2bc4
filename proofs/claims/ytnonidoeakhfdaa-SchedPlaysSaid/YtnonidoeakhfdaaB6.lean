/- End. -/
import Derived.Test.YtnonidoeakhfdaaB5
namespace Go.Proofs.Ytnonidoeakhfdaa
open Go.RowKit Go.Maps Go.Sort
set_option linter.unusedVariables false

theorem passAll_snoc (S : SS) (l : List Int) (x : Int) : S.passAll (l ++ [x]) = (S.passAll l).pass x := by
  unfold SS.passAll; rw [List.foldl_append]; rfl
theorem take_snocI {L : List Int} {k : Nat} {x : Int} (h : L[k]? = some x) : L.take (k + 1) = L.take k ++ [x] := by
  rw [List.take_add_one, h]; rfl

set_option maxHeartbeats 400000 in
theorem end_err (p : Option Addr) (t E : Int) (w : World) (hE : E ≠ 0) (ha : Calls Try.prog 40 #[.pointer p, .int .i64 t] w fun e w' => e = .returned (.tuple #[.pointer none, .int .i64 E]) ∧ w = w') :
    Calls Try.prog 24 #[.pointer p, .int .i64 t] w fun e w' => e = .returned (.int .i64 E) ∧ w = w' := by
  have hb : (E != 0) = true := by simpa using hE
  clear hE
  go_enter Try.func24, Try.ntmps24
  go_wp2_with (go_at_call 40; refine ha.mono ?_; rintro e w' ⟨rfl, rfl⟩)
  go_ret
  exact ⟨rfl, rfl⟩

/-- How far the locks have been passed on. -/
structure EndAt (d : Nat) (R : Rp) (S : SS) (w : World) (G : SS) (L : List Int) (g cap k : Nat) (wr : World) : Prop where
  ex : ∃ Rk, PR d R S w Rk (G.passAll (L.take k)) wr ∧ ¬ foot d Rk (G.passAll (L.take k)) g
  row : wr.ownsRow 0 3 1 (.slice (some ⟨g, 0, none⟩) L.length cap) L.length (L.map encZ)

theorem EndAt.cell {d : Nat} {R : Rp} {S G : SS} {w wr : World} {L : List Int} {g cap k : Nat} (h : EndAt d R S w G L g cap k wr) (hk : k < L.length) : wr.cell? ⟨g, k, none⟩ = some (.int .i64 L[k]) := by
  have := World.ownsRow.cells h.row (g := g) rfl k (encZ L[k]) (by rw [List.getElem?_map, List.getElem?_eq_getElem hk]; rfl)
  rwa [Addr.add_lit, Nat.zero_add] at this

theorem EndAt.step {d : Nat} {R : Rp} {S G : SS} {w wr : World} {L : List Int} {g cap k : Nat} (h : EndAt d R S w G L g cap k wr) (hk : k < L.length) (hW : WF G) (hnd : L.Nodup) (hL : ∀ n ∈ L, ∃ H, G.lock n = some H) :
    Calls Try.prog 42 #[.pointer (some ⟨d, 0, none⟩), .int .i64 L[k]] wr fun e w' => e = .returned (.tuple #[]) ∧ EndAt d R S w G L g cap (k + 1) w' := by
  obtain ⟨⟨Rk, hP, hg⟩, hrow⟩ := h
  have hWk := hW.passAll (L.take k)
  obtain ⟨H, hH⟩ := hL L[k] (List.getElem_mem hk)
  have hni : L[k] ∉ L.take k := fun hm => by
    have h1 : (L.take k ++ [L[k]]).Nodup := by
      rw [← take_snocI (List.getElem?_eq_getElem hk)]
      exact hnd.sublist (List.take_sublist _ _)
    exact (List.nodup_append.1 h1).2.2 _ hm _ (by simp) rfl
  have hHk : (G.passAll (L.take k)).lock L[k] = some H := by rw [passAll_lock G _ hni]; exact hH
  refine (pass_any d Rk _ L[k] wr hP.at_ hWk.rl (hWk.lockWf hHk) (hWk.fit hHk)).mono ?_
  rintro e w' ⟨rfl, R2, hP2⟩
  have e1 : G.passAll (L.take (k + 1)) = (G.passAll (L.take k)).pass L[k] := by rw [take_snocI (List.getElem?_eq_getElem hk), passAll_snoc]
  have hgl : g < wr.heap.size := (World.ownsRow.lt hrow g rfl).2
  refine ⟨rfl, ⟨R2, ?_, ?_⟩, ?_⟩
  · rw [e1]; exact hP.trans hP2
  · rw [e1]
    intro hf
    rcases hP2.foot g hf with hf | hf
    · exact hg hf
    · omega
  · exact own_of hrow fun k hk => hP2.fr.block k (World.ownsRow.lt hrow k hk).2 fun hf => by
      simp [Value.ownBlock] at hk; subst hk; exact hg hf

set_option maxRecDepth 100000 in
set_option maxHeartbeats 2000000 in
theorem end_ok (d : Nat) (R : Rp) (S : SS) (t : Int) (T : TS) (w : World) (h : At w d R S) (hW : WF S) (htw : (Lit.int .i64 t).wf = true) (hT : S.task t = some T) (hk : T.kind = 0) :
    Calls Try.prog 24 #[.pointer (some ⟨d, 0, none⟩), .int .i64 t] w fun e w' => e = .returned (.int .i64 0) ∧ Post d R S w ((S.gone t).passAll (S.holdsOf t)) w' := by
  have ha := awake_some d R S t T w h htw hT hk
  obtain ⟨b, hb⟩ := h.t.mapSome hT
  have c0 : w.cell? ⟨d, 0, none⟩ = some (.map (some b)) := by rw [h.c0, ← hb]
  have hm := h.t.map
  rw [hb] at hm
  have hm1 : w.ownsMap Try.prog 3 ptrElem b (Maps.size R.t.D) R.t.D := hm
  have hkey := key3 t htw
  have HD := Lib.hid (fun w1 j (ho : w1.ownsMap Try.prog 3 ptrElem b j (R.t.D.del (.int .i64 t))) (ht : w.mapTurned w1 b) => (show ∃ R1, PR d R S w R1 (S.gone t) w1 from ⟨_, h.turnT (PTdel h.t hW.rt hT hb (mapTurned_one ht) ho) rfl⟩))
  have HG := Lib.hid (hW.gone hT hk)
  have HL := Lib.hid (show ∀ n ∈ S.holdsOf t, ∃ H, (S.gone t).lock n = some H from fun n hn => by obtain ⟨H, hH, _⟩ := (holdsOf_mem hW.rl).1 hn; exact ⟨H, hH⟩)
  have HN := Lib.hid (holdsOf_nodup hW.rl t)
  have hlen : (S.holdsOf t).length ≤ 1000000 := Nat.le_trans (holdsOf_len S t) (Nat.le_trans hW.lused hW.used)
  have HC := Lib.hid (fun w1 R1 (hP : PR d R S w R1 (S.gone t) w1) => (show Calls Try.prog 44 #[.pointer (some ⟨d, 0, none⟩), .int .i64 t] w1 (Told (S.holdsOf t) w1) from holds_call d R1 (S.gone t) t w1 hP.at_ (hW.gone hT hk)))
  clear h hW hm hb hT hk
  go_enter Try.func24, Try.ntmps24
  go_wp2_with (first
    | (go_at_call 40; refine ha.mono ?_; rintro e w' ⟨rfl, rfl⟩)
    | (at_delete; refine wpList_delete_own _ rfl _ _ 52 3 rfl 59 law3 Try.underlying52 _ b _ R.t.D rfl hm1 _ _ rfl hkey ?_; intro w1 hown1 hturn1; obtain ⟨R1, hP1⟩ := HD.out _ _ hown1 hturn1; have HP1 := Lib.hid hP1; clear hturn1 hown1 hm1 hkey hP1 c0 ha)
    | (go_at_call 44; refine (HC.out _ _ HP1.out).mono ?_; rintro e w2 ⟨g, cap, rfl, ho, hf⟩; have HO := Lib.hid ho; have HF := Lib.hid hf; clear ho hf))
  obtain ⟨L, hL⟩ : ∃ L, S.holdsOf t = L := ⟨_, rfl⟩
  have HE : Hid (EndAt d R S w (S.gone t) L g cap 0 w2) := by
    refine Lib.hid ⟨⟨R1, ?_, ?_⟩, ?_⟩
    · exact HP1.out.trans (PR.same HP1.out.at_ HF.out)
    · intro hfoot
      have h1 := HP1.out.at_.lt g hfoot
      have h2 := (World.ownsRow.lt HO.out g rfl).1
      omega
    · have := own_base HO.out (Nat.zero_le _)
      rwa [hL] at this
  rw [hL] at hlen HL HN ⊢
  have HLL := Lib.hid hL
  clear HO HF HP1 HC HD hL
  go_loopw [27] (fun i wr => ∃ k : Nat, k ≤ L.length ∧ i = .int .i64 k ∧ EndAt d R S w (S.gone t) L g cap k wr) (fun i _ => L.length - (intOf i).toNat)
  case atStart => exact ⟨0, Nat.zero_le _, rfl, HE.out⟩
  case round =>
    obtain ⟨k, hk, rfl, hE⟩ := hrel
    have HE2 := Lib.hid hE
    clear hE HE
    by_cases hlt : k < L.length
    · have hc := HE2.out.cell hlt
      have hs := HE2.out.step hlt HG.out HN.out HL.out
      obtain ⟨x, hx⟩ : ∃ x, L[k] = x := ⟨_, rfl⟩
      rw [hx] at hc hs
      clear hx
      go_wp2_with (go_at_call 42; refine hs.mono ?_; rintro e w' ⟨rfl, he⟩; have HE3 := Lib.hid he; clear he hs)
      go_roundw
      case rel => exact ⟨k + 1, by omega, by go_num, HE3.out⟩
      case measure => simp [intOf]; omega
    · have hkl : k = L.length := by omega
      go_wp2
      go_ret
      obtain ⟨Rk, hP, _⟩ := HE2.out.ex
      rw [hkl, List.take_length] at hP
      rw [HLL.out]
      exact ⟨rfl, hP.post⟩

theorem end_call (d : Nat) (R : Rp) (S : SS) (t : Int) (w : World) (h : At w d R S) (hW : WF S) (htw : (Lit.int .i64 t).wf = true) :
    Calls Try.prog 24 #[.pointer (some ⟨d, 0, none⟩), .int .i64 t] w fun e w' => e = .returned (.int .i64 (S.endC t).1) ∧ Post d R S w (S.endC t).2 w' := by
  cases hT : S.task t with
  | none =>
    have e : S.endC t = (18, S) := by unfold SS.endC; rw [hT]
    rw [e]
    exact (end_err _ t 18 w (by omega) (awake_none d R S t w h htw hT)).mono fun e w' ⟨h1, h2⟩ => ⟨h1, h2 ▸ Post.refl h⟩
  | some T =>
    by_cases hk : T.kind = 0
    · have e : S.endC t = (0, (S.gone t).passAll (S.holdsOf t)) := by unfold SS.endC; rw [hT]; simp only [hk]; rfl
      rw [e]
      exact end_ok d R S t T w h hW htw hT hk
    · have e : S.endC t = (51, S) := by unfold SS.endC; rw [hT]; simp only [ne_eq, hk]; rfl
      rw [e]
      exact (end_err _ t 51 w (by omega) (awake_waits d R S t T w h htw hT hk)).mono fun e w' ⟨h1, h2⟩ => ⟨h1, h2 ▸ Post.refl h⟩
theorem end_nil (t : Int) (w : World) : Calls Try.prog 24 #[.pointer none, .int .i64 t] w fun e w' => e = .returned (.int .i64 1) ∧ w = w' :=
  end_err none t 1 w (by omega) (awake_nil t w)

end Go.Proofs.Ytnonidoeakhfdaa
