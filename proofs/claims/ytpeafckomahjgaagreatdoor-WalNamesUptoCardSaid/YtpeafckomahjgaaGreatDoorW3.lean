/- The log: state, said, syncBytes, settle, begin. -/
import Derived.Test.YtpeafckomahjgaaGreatDoorW2
import Derived.Deep.RegionHeld3
import Derived.Deep.DeepCutAuto
namespace Go.Proofs.YtpeafckomahjgaaGreatDoor
open Go.RowKit Go.Maps
set_option linter.unusedVariables false

theorem Lg.cells {w : World} {X : Nat → Prop} {d g N : Nat} {S : AS} {L : LS} (h : Lg w X d g N S L) : ∃ fv, w.cell? ⟨g, 0, none⟩ = some (.iface 25 (.pointer (some ⟨d, 0, none⟩))) ∧ w.cell? ⟨g, 1, none⟩ = some (.int .i64 L.fault) ∧ w.cell? ⟨g, 2, none⟩ = some (.int .i64 L.last) ∧ w.cell? ⟨g, 3, none⟩ = some (.int .i64 L.firm) ∧ w.cell? ⟨g, 4, none⟩ = some fv ∧
    w.cell? ⟨g, 5, none⟩ = some (.int .i64 L.number) ∧ w.cell? ⟨g, 6, none⟩ = some (.int .i64 L.size) ∧ w.cell? ⟨g, 7, none⟩ = some (.bool L.bytes) ∧ w.cell? ⟨g, 8, none⟩ = some (.bool L.names) := by
  obtain ⟨fv, h1, _⟩ := h.log
  exact ⟨fv, h1.blk.cell 0, h1.blk.cell 1, h1.blk.cell 2, h1.blk.cell 3, h1.blk.cell 4, h1.blk.cell 5, h1.blk.cell 6, h1.blk.cell 7, h1.blk.cell 8⟩
theorem Lg.frozen {w : World} {X : Nat → Prop} {d g N : Nat} {S : AS} {L : LS} (h : Lg w X d g N S L) (i : Nat) : w.frozen? ⟨g, i, none⟩ = false := by
  obtain ⟨fv, h1, _⟩ := h.log
  exact h1.blk.frozen i
def gpt (g : Nat) : Value := .pointer (some ⟨g, 0, Option.none⟩)

set_option maxHeartbeats 400000 in
theorem state_any {w : World} {X : Nat → Prop} {d g N : Nat} {S : AS} {L : LS} (h : Lg w X d g N S L) : Calls Tryz.prog 57 #[gpt g] w fun e w' => e = .returned (.int .i64 L.fault) ∧ w = w' := by
  obtain ⟨fv, c0, c1, _⟩ := h.cells
  unfold gpt
  clear h
  go_enter Tryz.func57, Tryz.ntmps57
  go_wp2
  all_goals go_ret
  all_goals exact ⟨rfl, rfl⟩

/-! ### said -/
def LS.said (L : LS) (e : Int) : LS := if e ≠ 0 ∧ e ≠ 12 then { L with fault := e } else L
theorem said_same (L : LS) (e : Int) : (L.said e).files = L.files ∧ (L.said e).number = L.number ∧ (L.said e).size = L.size ∧ (L.said e).last = L.last ∧ (L.said e).firm = L.firm ∧ (L.said e).bytes = L.bytes ∧ (L.said e).names = L.names := by
  unfold LS.said; split <;> exact ⟨rfl, rfl, rfl, rfl, rfl, rfl, rfl⟩
theorem LS.Ok.said {N : Nat} {L : LS} (h : L.Ok N) (e : Int) : (L.said e).Ok N := by
  unfold LS.said; split
  · exact ⟨h.last, h.firm, h.number, h.size, h.files⟩
  · exact h
theorem said_zero (L : LS) : L.said 0 = L := by unfold LS.said; rw [if_neg (by simp)]
set_option maxHeartbeats 400000 in
theorem said_any {w : World} {X : Nat → Prop} {d g N : Nat} {S : AS} {L : LS} (h : Lg w X d g N S L) (n : Int) : Calls Tryz.prog 60 #[gpt g, .int .i64 n] w fun e w' => e = .returned (.int .i64 n) ∧ Lg w' X d g N S (L.said n) ∧ Fr (fun k => ¬ X k) w w' := by
  have H := Lib.hid h
  obtain ⟨fv, hL, hd, h3, h4⟩ := h.log
  have c1 : w.cell? ⟨g, 1, none⟩ = some (.int .i64 L.fault) := hL.blk.cell 1
  have f1 := hL.blk.frozen 1
  unfold gpt
  by_cases h0 : n = 0
  · subst h0
    have HV : Hid (L.said 0 = L) := Lib.hid (said_zero L)
    clear h hL hd h3 h4
    go_enter Tryz.func60, Tryz.ntmps60
    go_wp2
    go_ret
    exact ⟨rfl, by rw [HV.out]; exact H.out, Fr.refl _ _⟩
  · have b0 : (n != 0) = true := by simpa using h0
    by_cases h12 : n = 12
    · subst h12
      have HV : Hid (L.said 12 = L) := Lib.hid (by unfold LS.said; rw [if_neg (by simp)])
      clear h hL hd h3 h4 h0
      go_enter Tryz.func60, Tryz.ntmps60
      go_wp2
      go_ret
      exact ⟨rfl, by rw [HV.out]; exact H.out, Fr.refl _ _⟩
    · have b1 : (n != 12) = true := by simpa using h12
      have HV : Hid (L.said n = { L with fault := n }) := Lib.hid (by unfold LS.said; rw [if_pos ⟨h0, h12⟩])
      obtain ⟨w1, hw1⟩ : ∃ w1, w.setCell ⟨g, 1, none⟩ (.int .i64 n) = w1 := ⟨_, rfl⟩
      have hb := hL.blk.set_ 1 (.int .i64 n)
      rw [hw1] at hb
      have hfr : Fr (One g) w w1 := by rw [← hw1]; exact Fr.set0 g w 1 _
      have hfin := Lib.hid (H.out.own (L' := { L with fault := n }) hL hd h3 h4 hfr hb rfl ⟨H.out.ok.last, H.out.ok.firm, H.out.ok.number, H.out.ok.size, H.out.ok.files⟩)
      have HW1 := Lib.hid hw1
      clear h hL hd h3 h4 h0 h12 hb hfr hw1
      go_enter Tryz.func60, Tryz.ntmps60
      go_wp2
      rw [HW1.out]
      go_ret
      exact ⟨rfl, by rw [HV.out]; exact hfin.out.1, hfin.out.2⟩

/-! ### the disk's calls beside a log -/
theorem Lg.two {w : World} {X : Nat → Prop} {d g N : Nat} {S : AS} {L : LS} (h : Lg w X d g N S L) {n : Int} (hn : L.number = n) : w.cell? ⟨g, 0, none⟩ = some (.iface 25 (.pointer (some ⟨d, 0, none⟩))) ∧ w.cell? ⟨g, 5, none⟩ = some (.int .i64 n) := by
  obtain ⟨fv, c0, _, _, _, _, c5, _⟩ := h.cells
  exact ⟨c0, by rw [← hn]; exact c5⟩
def dkp (d : Nat) : Value := .pointer (some ⟨d, 0, Option.none⟩)
theorem lg_sync {w : World} {X : Nat → Prop} {d g N : Nat} {S : AS} {L : LS} (h : Lg w X d g N S L) (l : List UInt8) (hl : l.length ≤ maxLen) :
    Calls Tryz.prog 29 #[dkp d, sv l] w fun e w' => e = .returned (.int .i64 (S.sync l).2) ∧ Lg w' X d g N (S.sync l).1 L ∧ Fr (fun k => ¬ X k) w w' := by
  obtain ⟨fv, hL, hd, h3, h4⟩ := h.log
  refine (x_sync hd l hl).mono ?_
  rintro e w' ⟨he, hd', hf⟩
  exact ⟨he, h.disk (Nat.le_refl _) h.big hL h3 h4 hd' hf⟩
theorem lg_settle {w : World} {X : Nat → Prop} {d g N : Nat} {S : AS} {L : LS} (h : Lg w X d g N S L) :
    Calls Tryz.prog 30 #[dkp d] w fun e w' => e = .returned (.int .i64 S.settle.2) ∧ Lg w' X d g N S.settle.1 L ∧ Fr (fun k => ¬ X k) w w' := by
  obtain ⟨fv, hL, hd, h3, h4⟩ := h.log
  refine (x_settle hd).mono ?_
  rintro e w' ⟨he, hd', hf⟩
  exact ⟨he, h.disk (Nat.le_refl _) h.big hL h3 h4 hd' hf⟩
theorem lg_write {w : World} {X : Nat → Prop} {d g N : Nat} {S : AS} {L : LS} (h : Lg w X d g N S L) (hN : N + 1 ≤ 1000000000) (l data : List UInt8) (hl : l.length ≤ maxLen) (hd : data.length ≤ maxLen) :
    Calls Tryz.prog 27 #[dkp d, sv l, sv data] w fun e w' => e = .returned (.int .i64 (S.write l data).2) ∧ Lg w' X d g (N + 1) (S.write l data).1 L ∧ Fr (fun k => ¬ X k) w w' := by
  obtain ⟨fv, hL, hk, h3, h4⟩ := h.log
  refine (x_write hk (by omega) l data hl hd).mono ?_
  rintro e w' ⟨he, hd', hf⟩
  exact ⟨he, h.disk (Nat.le_succ _) hN hL h3 h4 hd' hf⟩
theorem lg_remove {w : World} {X : Nat → Prop} {d g N : Nat} {S : AS} {L : LS} (h : Lg w X d g N S L) (hN : N + 1 ≤ 1000000000) (l : List UInt8) (hl : l.length ≤ maxLen) :
    Calls Tryz.prog 252 #[dkp d, sv l] w fun e w' => e = .returned (.int .i64 (S.remove l).2) ∧ Lg w' X d g (N + 1) (S.remove l).1 L ∧ Fr (fun k => ¬ X k) w w' := by
  obtain ⟨fv, hL, hk, h3, h4⟩ := h.log
  refine (x_remove hk (by omega) l hl).mono ?_
  rintro e w' ⟨he, hd', hf⟩
  exact ⟨he, h.disk (Nat.le_succ _) hN hL h3 h4 hd' hf⟩
theorem lg_read {w : World} {X : Nat → Prop} {d g N : Nat} {S : AS} {L : LS} (h : Lg w X d g N S L) (l : List UInt8) (hl : l.length ≤ maxLen) :
    Calls Tryz.prog 47 #[dkp d, sv l] w fun e w' => e = .returned (.tuple #[sv (S.read l).1, .int .i64 (S.read l).2]) ∧ Fr No w w' := by
  obtain ⟨fv, hL, hk, h3, h4⟩ := h.log
  exact x_read hk l hl
/-- One cell of the log's own. -/
theorem Lg.set {w : World} {X : Nat → Prop} {d g N : Nat} {S : AS} {L : LS} (h : Lg w X d g N S L) (i : Nat) (u : Value) (L' : LS) (hc : ∀ fv, (L.cells d fv).setIfInBounds i u = L'.cells d fv) (hf : L'.files = L.files) (hok : L'.Ok N) :
    Lg (w.setCell ⟨g, i, none⟩ u) X d g N S L' ∧ Fr (fun k => ¬ X k) w (w.setCell ⟨g, i, none⟩ u) := by
  obtain ⟨fv, hL, hd, h3, h4⟩ := h.log
  have hb := hL.blk.set_ i u
  rw [hc] at hb
  exact h.own hL hd h3 h4 (Fr.set0 g w i u) hb hf hok
theorem Fr.thenX {X : Nat → Prop} {a b c : World} (h : Fr (fun k => ¬ X k) a b) (k : Fr (fun k => ¬ X k) b c) : Fr (fun k => ¬ X k) a c := h.trans k fun _ _ h => h
/-! ### a call through the log's interface -/
theorem me_sync (a : Addr) (w : World) : (method 397 25 (.pointer (some a)) "Sync").run Tryz.prog w = .ok (29, .pointer (some a)) w := by kernel_rfl
theorem me_write (a : Addr) (w : World) : (method 397 25 (.pointer (some a)) "Write").run Tryz.prog w = .ok (27, .pointer (some a)) w := by kernel_rfl
theorem me_settle (a : Addr) (w : World) : (method 397 25 (.pointer (some a)) "Settle").run Tryz.prog w = .ok (30, .pointer (some a)) w := by kernel_rfl
theorem me_remove (a : Addr) (w : World) : (method 397 25 (.pointer (some a)) "Remove").run Tryz.prog w = .ok (252, .pointer (some a)) w := by kernel_rfl
theorem me_read (a : Addr) (w : World) : (method 397 25 (.pointer (some a)) "Read").run Tryz.prog w = .ok (47, .pointer (some a)) w := by kernel_rfl
theorem me_list (a : Addr) (w : World) : (method 397 25 (.pointer (some a)) "List").run Tryz.prog w = .ok (44, .pointer (some a)) w := by kernel_rfl
theorem me_cut (a : Addr) (w : World) : (method 397 25 (.pointer (some a)) "Cut").run Tryz.prog w = .ok (251, .pointer (some a)) w := by kernel_rfl

/-! ### syncBytes -/
def syncB (S : AS) (L : LS) : AS × LS × Int :=
  if L.bytes then
    if (S.sync (nameW L.number)).2 = 0 then ((S.sync (nameW L.number)).1, { L with bytes := false }, 0) else ((S.sync (nameW L.number)).1, L.said (S.sync (nameW L.number)).2, (S.sync (nameW L.number)).2)
  else (S, L, 0)
theorem nameW_len (n : Int) : (nameW n).length ≤ 20 := by
  unfold nameW
  split
  · simp
  · rename_i h
    rw [List.length_append, List.length_append, Lib.repeatL_length]
    have := digits8 (n := n) (by omega) (by omega)
    simp; omega
theorem nameW_max (n : Int) : (nameW n).length ≤ maxLen := by have := nameW_len n; unfold maxLen; omega
theorem LS.Ok.num64 {N : Nat} {L : LS} (h : L.Ok N) (hN : N ≤ 1000000000) : -9223372036854775808 ≤ L.number ∧ L.number ≤ 9223372036854775807 := by have := h.number; omega
/-- The log's two cells that the disk's calls read. -/
def Two5 (g d : Nat) (n : Int) (w : World) : Prop := w.cell? ⟨g, 0, none⟩ = some (.iface 25 (.pointer (some ⟨d, 0, none⟩))) ∧ w.cell? ⟨g, 5, none⟩ = some (.int .i64 n)
set_option maxRecDepth 100000 in
set_option maxHeartbeats 1000000 in
theorem syncB_any {w : World} {X : Nat → Prop} {d g N : Nat} {S : AS} {L : LS} (h : Lg w X d g N S L) : Calls Tryz.prog 58 #[gpt g] w fun e w' => e = .returned (.int .i64 (syncB S L).2.2) ∧ Lg w' X d g N (syncB S L).1 (syncB S L).2.1 ∧ Fr (fun k => ¬ X k) w w' := by
  have H := Lib.hid h
  obtain ⟨fv, c0, c1, c2, c3, c4, c5, c6, c7, c8⟩ := h.cells
  unfold gpt
  cases hb : L.bytes with
  | false =>
    have HV : Hid (syncB S L = (S, L, 0)) := Lib.hid (by unfold syncB; rw [hb]; rfl)
    rw [hb] at c7
    clear h hb c1 c2 c3 c4 c6 c8
    go_enter Tryz.func58, Tryz.ntmps58
    go_wp2
    go_ret
    exact ⟨by rw [HV.out]; rfl, by rw [HV.out]; exact H.out, Fr.refl _ _⟩
  | true =>
    rw [hb] at c7
    have hn := h.ok.num64 h.big
    have HD := Lib.hid (h.keep ((Fr.refl No w).drew))
    have HN := Lib.hid (name_any L.number w.drew (h.keep ((Fr.refl No w).drew)).vr hn.1 hn.2)
    go_enter Tryz.func58, Tryz.ntmps58
    go_upto_region 3 with fail
    have hm := me_sync
    have HV : Hid (syncB S L = if (S.sync (nameW L.number)).2 = 0 then ((S.sync (nameW L.number)).1, { L with bytes := false }, 0) else ((S.sync (nameW L.number)).1, L.said (S.sync (nameW L.number)).2, (S.sync (nameW L.number)).2)) := Lib.hid (by unfold syncB; rw [hb, if_pos rfl])
    have HBb := Lib.hid hb
    clear hb h
    go_cut [3] (fun ev wx => ev = .int .i64 (S.sync (nameW L.number)).2 ∧ Lg wx X d g N (S.sync (nameW L.number)).1 (L.said (S.sync (nameW L.number)).2) ∧ Fr (fun k => ¬ X k) w wx)
    case first =>
      go_region_held3 (fun w' => w'.cell? ⟨g, 0, none⟩ = some (.iface 25 (.pointer (some ⟨d, 0, none⟩))) ∧ w'.cell? ⟨g, 5, none⟩ = some (.int .i64 L.number))
        (first | exact HL3.out.two (said_same L _).2.1 | exact HL2.out.two rfl | exact HL1.out.two rfl | exact HD.out.two rfl | go_keep)
        (first
          | (go_at_call 28; refine HN.out.mono ?_; rintro e w1 ⟨rfl, f1⟩; have HL1 := Lib.hid (HD.out.keep f1); have HF1 := Lib.hid f1; clear f1)
          | (go_at_call 29; refine (lg_sync HL1.out (nameW L.number) (nameW_max _)).mono ?_; rintro e w2 ⟨rfl, h2, f2⟩; have HL2 := Lib.hid h2; have HF2 := Lib.hid f2; clear h2 f2)
          | (go_at_call 60; refine (said_any HL2.out _).mono ?_; rintro e w3 ⟨rfl, h3, f3⟩; have HL3 := Lib.hid h3; have HF3 := Lib.hid f3; clear h3 f3))
      all_goals (go_simp; go_wp2_with fail)
      all_goals go_meet
      all_goals exact ⟨rfl, HL3.out, ((((Fr.refl (fun k => ¬ X k) w).drew.trans HF1.out fun _ _ hk => hk.elim).trans HF2.out fun _ _ h => h).trans HF3.out fun _ _ h => h)⟩
    case rest =>
    obtain ⟨rfl, hL, hF⟩ := hcut
    have HLL := Lib.hid hL
    have HFF := Lib.hid hF
    clear hL hF HN HD hm
    generalize (S.sync (nameW L.number)).1 = S1 at *
    generalize (S.sync (nameW L.number)).2 = E at *
    by_cases he : E = 0
    · rw [he, said_zero] at HLL
      rw [if_pos he] at HV
      subst he
      obtain ⟨fv', d0, d1, d2, d3, d4, d5, d6, d7, d8⟩ := HLL.out.cells
      have y7 := HLL.out.frozen 7
      have HS := Lib.hid (HLL.out.set 7 (.bool false) { L with bytes := false } (fun _ => rfl) rfl ⟨HLL.out.ok.last, HLL.out.ok.firm, HLL.out.ok.number, HLL.out.ok.size, HLL.out.ok.files⟩)
      clear c0 c1 c2 c3 c4 c5 c6 c7 c8
      go_wp2
      go_ret
      exact ⟨by rw [HV.out]; rfl, by rw [HV.out]; exact HS.out.1, HFF.out.thenX HS.out.2⟩
    · rw [if_neg he] at HV
      have hd : (E != 0) = true := by simpa using he
      clear he
      go_wp2
      go_ret
      exact ⟨by rw [HV.out]; rfl, by rw [HV.out]; exact HLL.out, HFF.out⟩

/-! ### settle -/
def settleL (S : AS) (L : LS) : AS × LS × Int :=
  if S.settle.2 = 0 then (S.settle.1, { L with names := false }, 0) else (S.settle.1, L.said S.settle.2, S.settle.2)
set_option maxRecDepth 100000 in
set_option maxHeartbeats 1000000 in
theorem settleL_any {w : World} {X : Nat → Prop} {d g N : Nat} {S : AS} {L : LS} (h : Lg w X d g N S L) : Calls Tryz.prog 59 #[gpt g] w fun e w' => e = .returned (.int .i64 (settleL S L).2.2) ∧ Lg w' X d g N (settleL S L).1 (settleL S L).2.1 ∧ Fr (fun k => ¬ X k) w w' := by
  have H := Lib.hid h
  obtain ⟨fv, c0, _⟩ := h.cells
  have HC := Lib.hid (lg_settle h)
  have hm := me_settle
  have HV : Hid (settleL S L = if S.settle.2 = 0 then (S.settle.1, { L with names := false }, 0) else (S.settle.1, L.said S.settle.2, S.settle.2)) := Lib.hid rfl
  unfold gpt
  clear h
  generalize S.settle.1 = S1 at *
  generalize S.settle.2 = E at *
  unfold dkp at HC
  go_enter Tryz.func59, Tryz.ntmps59
  go_wp2_with fail
  refine HC.out.mono ?_
  rintro e w1 ⟨rfl, h1, f1⟩
  have H1 := Lib.hid h1
  have F1 := Lib.hid f1
  clear h1 f1 HC
  go_wp2_with fail
  have C2 := said_any H1.out E
  unfold gpt at C2
  refine C2.mono ?_
  clear C2
  rintro e w2 ⟨rfl, h2, f2⟩
  have HLL := Lib.hid h2
  have HFF := Lib.hid (F1.out.thenX f2)
  clear h2 f2 hm c0
  by_cases he : E = 0
  · rw [he, said_zero] at HLL
    rw [if_pos he] at HV
    subst he
    obtain ⟨fv', d0, d1, d2, d3, d4, d5, d6, d7, d8⟩ := HLL.out.cells
    have y8 := HLL.out.frozen 8
    have HS := Lib.hid (HLL.out.set 8 (.bool false) { L with names := false } (fun _ => rfl) rfl ⟨HLL.out.ok.last, HLL.out.ok.firm, HLL.out.ok.number, HLL.out.ok.size, HLL.out.ok.files⟩)
    go_wp2
    go_ret
    exact ⟨by rw [HV.out]; rfl, by rw [HV.out]; exact HS.out.1, HFF.out.thenX HS.out.2⟩
  · rw [if_neg he] at HV
    have hd : (E != 0) = true := by simpa using he
    clear he
    go_wp2
    go_ret
    exact ⟨by rw [HV.out]; rfl, by rw [HV.out]; exact HLL.out, HFF.out⟩

/-! ### begin -/
def beginL (S : AS) (L : LS) : AS × LS × Int :=
  if 0 < L.number ∧ L.size < 4096 then (S, L, 0)
  else if (syncB S L).2.2 = 0 then ((syncB S L).1, { (syncB S L).2.1 with number := L.number + 1, size := 0 }, 0) else (syncB S L)
theorem syncB_same (S : AS) (L : LS) : (syncB S L).2.1.files = L.files ∧ (syncB S L).2.1.number = L.number ∧ (syncB S L).2.1.size = L.size ∧ (syncB S L).2.1.last = L.last ∧ (syncB S L).2.1.firm = L.firm ∧ (syncB S L).2.1.names = L.names := by
  unfold syncB
  split
  · split
    · exact ⟨rfl, rfl, rfl, rfl, rfl, rfl⟩
    · obtain ⟨h1, h2, h3, h4, h5, h6, h7⟩ := said_same L (S.sync (nameW L.number)).2
      exact ⟨h1, h2, h3, h4, h5, h7⟩
  · exact ⟨rfl, rfl, rfl, rfl, rfl, rfl⟩
set_option maxRecDepth 100000 in
set_option maxHeartbeats 1000000 in
theorem beginL_any {w : World} {X : Nat → Prop} {d g N : Nat} {S : AS} {L : LS} (h : Lg w X d g N S L) (hN : N + 1 ≤ 1000000000) : Calls Tryz.prog 67 #[gpt g] w fun e w' => e = .returned (.int .i64 (beginL S L).2.2) ∧ Lg w' X d g (N + 1) (beginL S L).1 (beginL S L).2.1 ∧ Fr (fun k => ¬ X k) w w' := by
  have H := Lib.hid h
  obtain ⟨fv, c0, c1, c2, c3, c4, c5, c6, c7, c8⟩ := h.cells
  have hok := h.ok
  have hbig := h.big
  have hnum := h.ok.number
  have HC := Lib.hid (syncB_any h)
  have HSM := Lib.hid (syncB_same S L)
  unfold gpt at HC ⊢
  clear c0 c1 c2 c3 c4 c7 c8 hok
  by_cases hgo : 0 < L.number ∧ L.size < 4096
  · obtain ⟨g1, g2⟩ := hgo
    have HV : Hid (beginL S L = (S, L, 0)) := Lib.hid (by unfold beginL; rw [if_pos ⟨g1, g2⟩])
    have t1 : decide (0 < L.number) = true := by simpa using g1
    have t2 : decide (L.size < 4096) = true := by simpa using g2
    clear h HC g1 g2
    go_enter Tryz.func67, Tryz.ntmps67
    go_wp2
    go_ret
    exact ⟨by rw [HV.out]; rfl, by rw [HV.out]; exact H.out.more (by omega) hN, Fr.refl _ _⟩
  · have HV : Hid (beginL S L = if (syncB S L).2.2 = 0 then ((syncB S L).1, { (syncB S L).2.1 with number := L.number + 1, size := 0 }, 0) else (syncB S L)) := Lib.hid (by unfold beginL; rw [if_neg hgo])
    obtain ⟨x, hx⟩ : ∃ x, syncB S L = x := ⟨_, rfl⟩
    rw [hx] at HC HV HSM
    obtain ⟨S1, L1, E⟩ := x
    clear hx h
    have hw1 : IntKind.i64.wrap (L.number + 1) = L.number + 1 := IntWalk.i64_in _ (by omega)
    by_cases h0 : 0 < L.number
    · have g2 : ¬ L.size < 4096 := fun h2 => hgo ⟨h0, h2⟩
      have t1 : decide (0 < L.number) = true := by simpa using h0
      have t2 : decide (L.size < 4096) = false := by simpa using g2
      clear hgo h0 g2
      go_enter Tryz.func67, Tryz.ntmps67
      go_wp2_with fail
      refine HC.out.mono ?_
      rintro e w1 ⟨rfl, h1, f1⟩
      have H1 := Lib.hid (Lg.more (show Lg w1 X d g N S1 L1 from h1) (Nat.le_succ _) hN)
      have F1 := Lib.hid f1
      have e5 : L1.number = L.number := HSM.out.2.1
      have E5 := Lib.hid e5
      clear h1 f1 HC e5
      by_cases he : E = 0
      · rw [if_pos he] at HV
        subst he
        have hc5 := H1.out.two (L := L1) E5.out
        obtain ⟨fv', d0, d1, d2, d3, d4, d5, d6, d7, d8⟩ := H1.out.cells
        rw [E5.out] at d5
        have y5 := H1.out.frozen 5
        have hok1 := H1.out.ok
        have hS1 := H1.out.set 5 (.int .i64 (L.number + 1)) { L1 with number := L.number + 1 } (fun _ => rfl) rfl ⟨hok1.last, hok1.firm, by simp only; omega, hok1.size, hok1.files⟩
        obtain ⟨w2, hw2⟩ : ∃ w2, w1.setCell ⟨g, 5, none⟩ (.int .i64 (L.number + 1)) = w2 := ⟨_, rfl⟩
        rw [hw2] at hS1
        have hok2 := hS1.1.ok
        have hS2 := hS1.1.set 6 (.int .i64 0) { L1 with number := L.number + 1, size := 0 } (fun _ => rfl) rfl ⟨hok2.last, hok2.firm, hok2.number, by simp only; omega, hok2.files⟩
        obtain ⟨fv2, x0, x1, x2, x3, x4, x5, x6, x7, x8⟩ := hS1.1.cells
        have y6 := hS1.1.frozen 6
        have HS1 := Lib.hid hS1
        have HS2 := Lib.hid hS2
        have HW2 := Lib.hid hw2
        clear hok1 hok2 hS1 hS2 hw2 d0 d1 d2 d3 d4 d6 d7 d8 x0 x1 x2 x3 x4 x5 x7 x8 hc5
        go_upto_region 7 with fail
        rw [HW2.out]
        go_wp2
        go_ret
        exact ⟨by rw [HV.out]; rfl, by rw [HV.out]; exact HS2.out.1, (F1.out.thenX HS1.out.2).thenX HS2.out.2⟩
      · rw [if_neg he] at HV
        have hd : (E != 0) = true := by simpa using he
        clear he
        go_wp2
        go_ret
        exact ⟨by rw [HV.out]; rfl, by rw [HV.out]; exact H1.out, F1.out⟩
    · have t1 : decide (0 < L.number) = false := by simpa using h0
      clear hgo h0
      go_enter Tryz.func67, Tryz.ntmps67
      go_wp2_with fail
      refine HC.out.mono ?_
      rintro e w1 ⟨rfl, h1, f1⟩
      have H1 := Lib.hid (Lg.more (show Lg w1 X d g N S1 L1 from h1) (Nat.le_succ _) hN)
      have F1 := Lib.hid f1
      have e5 : L1.number = L.number := HSM.out.2.1
      have E5 := Lib.hid e5
      clear h1 f1 HC e5
      by_cases he : E = 0
      · rw [if_pos he] at HV
        subst he
        have hc5 := H1.out.two (L := L1) E5.out
        obtain ⟨fv', d0, d1, d2, d3, d4, d5, d6, d7, d8⟩ := H1.out.cells
        rw [E5.out] at d5
        have y5 := H1.out.frozen 5
        have hok1 := H1.out.ok
        have hS1 := H1.out.set 5 (.int .i64 (L.number + 1)) { L1 with number := L.number + 1 } (fun _ => rfl) rfl ⟨hok1.last, hok1.firm, by simp only; omega, hok1.size, hok1.files⟩
        obtain ⟨w2, hw2⟩ : ∃ w2, w1.setCell ⟨g, 5, none⟩ (.int .i64 (L.number + 1)) = w2 := ⟨_, rfl⟩
        rw [hw2] at hS1
        have hok2 := hS1.1.ok
        have hS2 := hS1.1.set 6 (.int .i64 0) { L1 with number := L.number + 1, size := 0 } (fun _ => rfl) rfl ⟨hok2.last, hok2.firm, hok2.number, by simp only; omega, hok2.files⟩
        obtain ⟨fv2, x0, x1, x2, x3, x4, x5, x6, x7, x8⟩ := hS1.1.cells
        have y6 := hS1.1.frozen 6
        have HS1 := Lib.hid hS1
        have HS2 := Lib.hid hS2
        have HW2 := Lib.hid hw2
        clear hok1 hok2 hS1 hS2 hw2 d0 d1 d2 d3 d4 d6 d7 d8 x0 x1 x2 x3 x4 x5 x7 x8 hc5
        go_upto_region 7 with fail
        rw [HW2.out]
        go_wp2
        go_ret
        exact ⟨by rw [HV.out]; rfl, by rw [HV.out]; exact HS2.out.1, (F1.out.thenX HS1.out.2).thenX HS2.out.2⟩
      · rw [if_neg he] at HV
        have hd : (E != 0) = true := by simpa using he
        clear he
        go_wp2
        go_ret
        exact ⟨by rw [HV.out]; rfl, by rw [HV.out]; exact H1.out, F1.out⟩
end Go.Proofs.YtpeafckomahjgaaGreatDoor
