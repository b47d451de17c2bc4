/- Settle: the names are firm, and what no name stands for is forgotten. -/
import Derived.Test.YtpeafckomahjgaaGreatDoorDB6
namespace Go.Proofs.YtpeafckomahjgaaGreatDoor
open Go.RowKit Go.Maps Go.Sort
set_option linter.unusedVariables false

/-- Does an entry stand for file n? -/
def stands (n : Int) (p : Lit × DU) : Bool := match p.2 with | .lit (.int .i64 m) => m == n | _ => false
def keeps (D : DU) (n : Int) : Bool := match D with | .map es => es.any (stands n) | _ => false
/-- .. that has come already -/
def kept (D : DU) (left : Lit → Bool) (n : Int) : Bool := match D with | .map es => es.any (fun p => !left p.1 && stands n p) | _ => false

def AS.settled (S : AS) : AS := { S with firm := S.names, loose := [], file := fun n => if keeps S.names n then S.file n else none }

theorem kept_start {D : DU} (c : Canon D) (n : Int) : kept D (has D) n = false := by
  obtain ⟨es, rfl, hp, hk⟩ := c
  unfold kept
  simp only
  rw [List.any_eq_false]
  intro p hpm
  have : has (.map es : DU) p.1 = true := by rw [has_eq, List.any_eq_true]; exact ⟨p, hpm, WideAt.sameKey_self (hk p hpm)⟩
  simp [this]
theorem kept_end {D : DU} {left : Lit → Bool} (h : ∀ k, left k = false) (n : Int) : kept D left n = keeps D n := by
  unfold kept keeps
  cases D with
  | map es => simp [h]
  | _ => rfl

theorem find_entry {D : DU} (c : Canon D) {kl : Lit} {v : DU} (hat : ∀ z, D.atKey kl z = v) : ∃ es p, D = .map es ∧ p ∈ es ∧ p.1 = kl ∧ p.2 = v ∧ ∀ q ∈ es, q.1 = kl → q = p := by
  obtain ⟨es, rfl, hp, hk⟩ := c
  have hh := has_true_of_atKey hat
  rw [has_eq, List.any_eq_true] at hh
  obtain ⟨p, hpm, hs⟩ := hh
  cases hf : es.find? (fun p => p.1.sameKey kl) with
  | none => rw [List.find?_eq_none] at hf; exact absurd hs (hf p hpm)
  | some q =>
    have hq := List.mem_of_find?_eq_some hf
    have hqs := List.find?_some hf
    have hqk : q.1 = kl := by
      by_cases e : q.1 = kl
      · exact e
      · rw [sameKey_ne e] at hqs; cases hqs
    have hv := hat .nil
    simp only [DataW.atKey, hf] at hv
    refine ⟨es, q, rfl, hq, hqk, hv, fun r hr hrk => ?_⟩
    have hap := apart_of_rising hp
    rcases List.getElem_of_mem hr with ⟨i, hi, rfl⟩
    rcases List.getElem_of_mem hq with ⟨j, hj, e⟩
    by_cases hij : i = j
    · subst hij; exact e
    · exfalso
      have hk' : es[i].1 = es[j].1 := by rw [hrk, e, hqk]
      rcases Nat.lt_or_gt_of_ne hij with h | h
      · exact List.pairwise_iff_getElem.1 hap i j hi hj h hk'
      · exact List.pairwise_iff_getElem.1 hap j i hj hi h hk'.symm

theorem kept_step {D : DU} (c : Canon D) {left : Lit → Bool} {kl : Lit} {m : Int} (hk : WideAt.IsKeyLit kl) (hat : ∀ z, D.atKey kl z = .lit (.int .i64 m)) (n : Int) :
    kept D (fun z => left z && !z.sameKey kl) n = (kept D left n || m == n) := by
  obtain ⟨es, p, rfl, hpm, hpk, hpv, hu⟩ := find_entry c hat
  unfold kept
  simp only
  rw [Bool.eq_iff_iff]
  simp only [List.any_eq_true, Bool.or_eq_true]
  constructor
  · rintro ⟨q, hq, h⟩
    rw [Bool.and_eq_true] at h
    obtain ⟨h1, h2⟩ := h
    by_cases e : q.1 = kl
    · have := hu q hq e
      subst this
      right
      unfold stands at h2
      rw [hpv] at h2
      exact h2
    · left
      refine ⟨q, hq, ?_⟩
      rw [sameKey_ne e] at h1
      simp at h1
      simp [h1, h2]
  · rintro (⟨q, hq, h⟩ | h)
    · refine ⟨q, hq, ?_⟩
      rw [Bool.and_eq_true] at h ⊢
      refine ⟨?_, h.2⟩
      have := h.1
      simp at this
      simp [this]
    · refine ⟨p, hpm, ?_⟩
      rw [Bool.and_eq_true]
      refine ⟨?_, ?_⟩
      · rw [hpk, WideAt.sameKey_self hk]; simp
      · unfold stands; rw [hpv]; exact h

theorem keeps_look {D : DU} (c : Canon D) {l : List UInt8} {n : Int} (hat : ∀ z, D.atKey (.string l) z = .lit (.int .i64 n)) : keeps D n = true := by
  obtain ⟨es, p, rfl, hpm, hpk, hpv, hu⟩ := find_entry c hat
  unfold keeps
  simp only
  rw [List.any_eq_true]
  exact ⟨p, hpm, by unfold stands; rw [hpv]; simp⟩

/-- What the new table of files holds. -/
def Files (R : Rp) (D Dout : DU) (left : Lit → Bool) : Prop :=
  ∀ n, has Dout (.int .i64 n) = kept D left n ∧ (kept D left n = true → ∀ z, Dout.atKey (.int .i64 n) z = .lit (.int .i64 (R.rc n).1))

theorem Files.step {R : Rp} {D Dout : DU} {left : Lit → Bool} (h : Files R D Dout left) (c : Canon D) (hm : IsMap Dout) {kl : Lit} {m : Int} (hk : WideAt.IsKeyLit kl) (hat : ∀ z, D.atKey kl z = .lit (.int .i64 m)) :
    Files R D (Dout.put (.int .i64 m) (.lit (.int .i64 (R.rc m).1))) (fun z => left z && !z.sameKey kl) := by
  intro n
  rw [kept_step c hk hat]
  by_cases e : n = m
  · subst e
    rw [has_put_same hm (isKeyI n)]
    exact ⟨by simp, fun _ z => atKey_put_same hm (isKeyI n) _ z⟩
  · have e' : (m == n) = false := by simpa using Ne.symm e
    rw [has_put_other (keyI_ne e), e', Bool.or_false]
    exact ⟨(h n).1, fun hk z => by rw [atKey_put_other (keyI_ne e)]; exact (h n).2 hk z⟩

theorem keeps_ref {w : World} {b m : Nat} {D : DU} (ho : w.ownsMap Tryz.prog 9 (plainElem Tryz.prog 3) b m D) {n : Int} (h : keeps D n = true) : ∃ l, look D l = some n := by
  obtain ⟨es, rfl, hp, hk⟩ := ho.canon law9
  obtain ⟨es', he', hk'⟩ := ho.keysOf
  cases he'
  unfold keeps at h
  simp only at h
  rw [List.any_eq_true] at h
  obtain ⟨p, hpm, hs⟩ := h
  obtain ⟨v, hv⟩ := hk' p hpm
  obtain ⟨l, hl⟩ := key_string hv
  have hh : has (.map es : DU) (.string l) = true := by rw [has_eq, List.any_eq_true]; exact ⟨p, hpm, by rw [← hl]; exact WideAt.sameKey_self (hk p hpm)⟩
  obtain ⟨c, hc⟩ := owns_ints ho l hh
  obtain ⟨es2, q, he2, hq, hqk, hqv, hu⟩ := find_entry (ho.canon law9) hc
  cases he2
  have := hu p hpm hl
  subst this
  unfold stands at hs
  rw [hqv] at hs
  have e : c = n := by simpa using hs
  subst e
  exact ⟨l, by unfold look; rw [hc .nil]⟩

theorem settle_end {w wr : World} {d b F m : Nat} {R : Rp} {S : AS} {Dout : DU} {left : Lit → Bool} (h : At w d R S) (hW : ∀ l n, look S.names l = some n → ∃ r, S.file n = some r) (hnm : R.nm = some b) (hfr : Fr (One d) w wr)
    (hbk : Blk wr d 84 #[.int .i64 S.room, .bool S.on, .bool S.armed, .int .i64 S.left, .int .i64 S.steps, .map R.nm, .map (some w.heap.size), .slice none 0 0, .map R.fb, .int .i64 S.last])
    (hout : wr.ownsMap Tryz.prog 3 ptrElem F m Dout) (hF : Files R S.names Dout left) (hl : ∀ k, left k = false) (hfm : wr.ownsMap Tryz.prog 9 (plainElem Tryz.prog 3) w.heap.size (Maps.size S.names) S.names) (hlt : w.heap.size < F) :
    ∃ R', PR d R S w R' S.settled (wr.setCell ⟨d, 8, none⟩ (.map (some F))) ∧ ∃ b c, R'.nm = some b ∧ R'.fb = some c := by
  obtain ⟨a1, a2, a3, a4, a5⟩ := h.apart
  have hdl := h.blk.lt
  have hf : Fr (One d) w (wr.setCell ⟨d, 8, none⟩ (.map (some F))) := hfr.set1 8 _
  have ne : ∀ k, foot d R S k → k ≠ d → (wr.setCell ⟨d, 8, none⟩ (.map (some F))).heap[k]? = w.heap[k]? := fun k hk hn => hf.block k (h.lt k hk) hn
  have hbs := h.names.lt b hnm
  have hnames := h.names
  rw [hnm] at hnames
  refine ⟨{ nm := R.nm, fm := some w.heap.size, fb := some F, lv := .slice none 0 0, rc := R.rc, FD := Dout }, ⟨?_, hf.mono (fun k _ hk => .inl hk), fun k hk => ?_⟩, b, F, hnm, rfl⟩
  · exact {
      blk := hbk.set_ 8 _
      names := h.names.of fun b hb => ne _ (.inr (.inl hb)) (fun e => a1 (e ▸ hb))
      firm := owns_of hfm (Below.heap_setCell _ _ _ _ (by simp; omega))
      files := owns_tight (owns_of hout (Below.heap_setCell _ _ _ _ (by simp; omega)))
      loose := World.ownsRow_nil _ 0 108 3
      fd := fun n => by
        show FileAt _ _ n (if keeps S.names n then S.file n else none)
        have hFn := hF n
        rw [kept_end hl] at hFn
        cases hk : keeps S.names n with
        | false =>
          rw [hk] at hFn
          exact hFn.1
        | true =>
          rw [hk] at hFn
          obtain ⟨l, hlk⟩ := keeps_ref (b := b) hnames hk
          obtain ⟨r, hr⟩ := hW l n hlk
          have hfd := h.fd n
          rw [hr] at hfd
          simp only [if_true]
          rw [hr]
          obtain ⟨_, g2, g3⟩ := hfd
          exact ⟨hFn.2 rfl, g2.of (ne _ (.inr (.inr (.inr (.inr (.inr ⟨n, r, hr, .inl rfl⟩))))) (a5 n r hr).1), own_of g3 fun k hk => ne _ (.inr (.inr (.inr (.inr (.inr ⟨n, r, hr, .inr hk⟩))))) (fun e => (a5 n r hr).2 (e ▸ hk))⟩
      ne1 := fun k hk e => by
        have e1 : R.nm = some k := hk
        have e2 : some w.heap.size = some k := e
        have := Option.some.inj e2
        have := h.names.lt k e1
        omega
      ne2 := fun k hk e => by
        have e1 : R.nm = some k := hk
        have e2 : some F = some k := e
        have := Option.some.inj e2
        have := h.names.lt k e1
        omega
      ne3 := fun k hk e => by
        have e1 : some w.heap.size = some k := hk
        have e2 : some F = some k := e
        have := Option.some.inj e2
        have := Option.some.inj e1
        omega
      ap := fun n1 n2 r1 r2 hne h1 h2 => by
        have h1' : (if keeps S.names n1 then S.file n1 else none) = some r1 := h1
        have h2' : (if keeps S.names n2 then S.file n2 else none) = some r2 := h2
        split at h1' <;> split at h2' <;> first | exact h.ap n1 n2 r1 r2 hne h1' h2' | cases h1' | cases h2'
      onn := fun _ => ⟨b, F, hnm, rfl⟩ }
  · rcases hk with hk | hk | hk | hk | hk | ⟨n, r, hr, hk⟩
    · exact .inl (.inl hk)
    · exact .inl (.inr (.inl hk))
    · exact .inr (by have := Option.some.inj hk; omega)
    · exact .inr (by have := Option.some.inj hk; omega)
    · simp [Value.ownBlock] at hk
    · have hr' : (if keeps S.names n then S.file n else none) = some r := hr
      split at hr'
      · exact .inl (.inr (.inr (.inr (.inr (.inr ⟨n, r, hr', hk⟩)))))
      · cases hr'

set_option maxRecDepth 100000 in
set_option maxHeartbeats 4000000 in
theorem settle_any (d : Nat) (R : Rp) (S : AS) (b : Nat) (w : World) (h : At w d R S) (hW : ∀ l n, look S.names l = some n → ∃ r, S.file n = some r) (hnm : R.nm = some b) (hsz : Maps.size S.names ≤ 1000000) :
    Calls Tryz.prog 66 #[.pointer (some ⟨d, 0, none⟩)] w fun e w' => e = .returned (.tuple #[]) ∧ ∃ R', PR d R S w R' S.settled w' ∧ ∃ b c, R'.nm = some b ∧ R'.fb = some c := by
  have c5 := (cells_all h).2.2.2.2.2.1
  rw [hnm] at c5
  have hown := h.names
  rw [hnm] at hown
  have hmm := @run_makeMap Tryz.prog
  go_enter Tryz.func66, Tryz.ntmps66
  go_wp2_with fail
  refine (clone_owns _ b _ _ w hown).mono ?_
  rintro e w1 ⟨rfl, ho1, ho2, hb1⟩
  have h1 := h.below hb1
  have d5 := (cells_all h1).2.2.2.2.2.1
  rw [hnm] at d5
  have d6 := (cells_all h1).2.2.2.2.2.2.1
  have d7 := (cells_all h1).2.2.2.2.2.2.2.1
  have z6 := h1.blk.frozen 6
  have z7 := h1.blk.frozen 7
  have hbd : b ≠ d := fun e => h.apart.1 (e ▸ hnm)
  have hr2 : (((w1.setCell ⟨d, 6, none⟩ (.map (some w.heap.size))).setCell ⟨d, 7, none⟩ (.slice none 0 0)).alloc (.map #[] 0)).ownsMap Tryz.prog 9 (plainElem Tryz.prog 3) b (Maps.size S.names) S.names :=
    ((World.ownsMap.setCell (World.ownsMap.setCell ho2 (a := ⟨d, 6, none⟩) hbd _) (a := ⟨d, 7, none⟩) hbd _)).alloc _
  have hsz2 : (((w1.setCell ⟨d, 6, none⟩ (.map (some w.heap.size))).setCell ⟨d, 7, none⟩ (.slice none 0 0)).alloc (.map #[] 0)).heap.size = w1.heap.size + 1 := by simp [World.setCell]
  have HSZ := Lib.hid hsz2
  clear hsz2
  have H := Lib.hid h
  have H1 := Lib.hid h1
  have HO1 := Lib.hid ho1
  have HB1 := Lib.hid hb1
  have HR2 := Lib.hid hr2
  have HNM := Lib.hid hnm
  have HWF := Lib.hid hW
  have hdl := h1.blk.lt
  clear h h1 ho1 ho2 hb1 hown c5 hbd hr2 hnm hW
  go_wp2_with (first
    | (at_range; refine wpList_range_own _ rfl _ 75 rfl 9 3 law9 Tryz.underlying75 (plainElem Tryz.prog 3) b _ _ rfl HR2.out ?_; intro w0 hrg0 hg0 hs0; rw [HSZ.out] at hrg0 hs0 ⊢)
    | go_in)
  have hW2 : Fr (One d) w w0 := ((((Fr.of_below HB1.out).any.trans (((Fr.set0 d w1 6 _).set1 7 _).alloc _) fun _ _ hj => hj)).grown hg0 fun k hk => by cases hk)
  have hB2 : Blk w0 d 84 #[.int .i64 S.room, .bool S.on, .bool S.armed, .int .i64 S.left, .int .i64 S.steps, .map R.nm, .map (some w.heap.size), .slice none 0 0, .map R.fb, .int .i64 S.last] := by
    have q := (H1.out.blk.set_ 6 (.map (some w.heap.size))).set_ 7 (.slice none 0 0)
    exact Blk.of q ((hg0.block d (by simp [World.setCell]; omega) (by simp)).trans (Below.heap_alloc _ _ d (by simp [World.setCell]; omega)))
  have hM2 : w0.ownsMap Tryz.prog 3 ptrElem w1.heap.size 0 (.map []) := by
    have q := World.ownsMap_made (H := Unit) ((w1.setCell ⟨d, 6, none⟩ (.map (some w.heap.size))).setCell ⟨d, 7, none⟩ (.slice none 0 0)) Tryz.prog 3 ptrElem
    have e : ((w1.setCell ⟨d, 6, none⟩ (.map (some w.heap.size))).setCell ⟨d, 7, none⟩ (.slice none 0 0)).heap.size = w1.heap.size := by simp [World.setCell]
    rw [e] at q
    exact q.kept hg0 (by simp)
  have hC : Canon S.names := by
    have := H.out.names
    rw [HNM.out] at this
    exact World.ownsMap.canon (b := b) this law9
  have hFm : w0.ownsMap Tryz.prog 9 (plainElem Tryz.prog 3) w.heap.size (Maps.size S.names) S.names := by
    have hfd : w.heap.size ≠ d := by have := H.out.blk.lt; omega
    exact (World.ownsMap.setCell (World.ownsMap.setCell HO1.out (a := ⟨d, 6, none⟩) hfd _) (a := ⟨d, 7, none⟩) hfd _).alloc _ |>.kept hg0 (by simp)
  have HC := Lib.hid hC
  have HFM := Lib.hid hFm
  have HW2 := Lib.hid hW2
  have HB2 := Lib.hid hB2
  have HM2 := Lib.hid hM2
  clear hW2 hB2 hM2 hC hFm d5 d6 d7 z6 z7
  have hws := HO1.out.lt
  have hb1s := H.out.names.lt b HNM.out
  go_frame
  go_loopw [4] (fun _ wr => ∃ (left : Lit → Bool) (cnt : Nat) (Dout : DU), wr.ranges Tryz.prog 9 (plainElem Tryz.prog 3) b (w1.heap.size + 1) (Maps.size S.names) S.names left cnt ∧ cnt ≤ Maps.size S.names ∧ wr.ownsMap Tryz.prog 3 ptrElem w1.heap.size (Maps.size S.names - cnt) Dout ∧ Files R S.names Dout left ∧
      Fr (One d) w wr ∧ Blk wr d 84 #[.int .i64 S.room, .bool S.on, .bool S.armed, .int .i64 S.left, .int .i64 S.steps, .map R.nm, .map (some w.heap.size), .slice none 0 0, .map R.fb, .int .i64 S.last] ∧ wr.ownsMap Tryz.prog 9 (plainElem Tryz.prog 3) w.heap.size (Maps.size S.names) S.names)
    (fun _ wr => wr.rangeLeft b (w1.heap.size + 1))
  case atStart =>
    exact ⟨_, _, .map [], hrg0, Nat.le_refl _, by simpa using HM2.out, fun n => ⟨by rw [kept_start HC.out]; rfl, fun hk => by rw [kept_start HC.out] at hk; cases hk⟩, HW2.out, HB2.out, HFM.out⟩
  case round =>
    obtain ⟨left, cnt, Dout, hrg, hcs, hout, hF, hfr, hbk, hfm⟩ := hrel
    have HF := Lib.hid hF
    have HFR := Lib.hid hfr
    have HBK := Lib.hid hbk
    have HOUT := Lib.hid hout
    have HFM2 := Lib.hid hfm
    have HRG := Lib.hid hrg
    clear hF hfr hbk hout hfm hrg hrg0 hg0 hmm HW2 HB2 HM2 HFM HR2
    go_wp2_with (first
      | (at_next; refine wpList_next_ranges _ rfl _ rfl 9 law9 (plainElem Tryz.prog 3) id (Value.int .i64) (fun key _ _ => ⟨key, rfl⟩) (fun v y hv => by obtain ⟨c, rfl, _⟩ := plainElem_int_inv Tryz.underlying3 hv; exact ⟨c, rfl⟩) b (w1.heap.size + 1) _ _ _ _ rfl HRG.out ?_ ?_)
      | go_in)
    · intro hc0 hl0
      have k8 := HBK.out.cell 8
      have z8 := HBK.out.frozen 8
      go_wp2
      go_end0
      exact ⟨rfl, settle_end H.out HWF.out HNM.out HFR.out HBK.out HOUT.out HF.out hl0 HFM2.out hws⟩
    · intro x c kl yl yp w3 cnt1 hkey hlx hv hat hrg1 hlt hg1 hs1 hen
      obtain ⟨c', ec, ey, hwc⟩ := plainElem_int_inv Tryz.underlying3 hv
      cases ec
      cases ey
      obtain ⟨sk, rfl⟩ := key_string hkey
      have hlk : look S.names sk = some c := by unfold look; rw [hat .nil]
      obtain ⟨r, hr⟩ := HWF.out sk c hlk
      have hbs := HBK.out.lt
      have hbk3 : Blk w3 d 84 #[.int .i64 S.room, .bool S.on, .bool S.armed, .int .i64 S.left, .int .i64 S.steps, .map R.nm, .map (some w.heap.size), .slice none 0 0, .map R.fb, .int .i64 S.last] := HBK.out.of (hg1.block d hbs (by intro e; have := Option.some.inj e; omega))
      have hfr3 : Fr (One d) w w3 := HFR.out.grown hg1 (fun k hk hkl => by have := Option.some.inj hk; omega)
      obtain ⟨fb, hfbe⟩ := H.out.fbs hr
      have hfl := H.out.files
      rw [hfbe] at hfl
      have hfbd : fb ≠ d := fun e => H.out.apart.2.2.1 (e ▸ hfbe)
      have hfl3 : w3.ownsMap Tryz.prog 3 ptrElem fb (Maps.size R.FD) R.FD := owns_of (b := fb) hfl (hfr3.block fb (World.ownsMap.lt (b := fb) hfl) hfbd)
      have hfd := H.out.fd c
      rw [hr] at hfd
      have hrun2 := run_file (b := fb) hfl3 hwc hfd.1
      have k8 := hbk3.cell 8
      simp only [hfbe] at k8
      have hout3 := HOUT.out.kept hg1 (by intro e; have := Option.some.inj e; omega)
      have hfm3 := HFM2.out.kept hg1 (by intro e; have := Option.some.inj e; omega)
      have hroom : Maps.size S.names - cnt < maxLen := by unfold maxLen; omega
      have hk3 := key3 c hwc
      have hF3 := HF.out.step HC.out HOUT.out.isMap (isKey sk) hat
      have HF3 := Lib.hid hF3
      have HO3 := Lib.hid hout3
      have HFM3 := Lib.hid hfm3
      have HR3 := Lib.hid hrg1
      have HBK3 := Lib.hid hbk3
      have HFR3 := Lib.hid hfr3
      have HK3 := Lib.hid hk3
      clear hF3 hout3 hfm3 hrg1 hbk3 hfr3 hk3 hfl3 hfl hfd hfbe hr hlk hv hat hkey hlx hg1 hs1 hwc HF HOUT HFM2 HFR HBK
      go_wp2_with (first
        | (at_mapUpdate; refine wpList_mapUpdate_own _ rfl _ _ _ 76 rfl 3 111 law3 Tryz.underlying76 ptrElem w1.heap.size _ Dout rfl HO3.out hroom _ _ (.int .i64 c) rfl rfl HK3.out (.lit (.int .i64 (R.rc c).1)) [] (ptrElem_mk _) ?_; intro w4 hown4 hg4; go_frame)
        | go_in)
      go_roundw
      case rel =>
        have hne1 : (some b : Option Nat) ≠ some w1.heap.size := by intro e; cases e; omega
        have hne2 : (some (w1.heap.size + 1) : Option Nat) ≠ some w1.heap.size := by intro e; have := Option.some.inj e; omega
        have hbs3 := HBK3.out.lt
        exact ⟨_, cnt1, _, HR3.out.kept hg4 hne1 hne2, by omega, hown4.mono (by omega), HF3.out, HFR3.out.grown hg4 (fun k hk hkl => by have := Option.some.inj hk; omega), HBK3.out.of (hg4.block d hbs3 (by intro e; have := Option.some.inj e; have := H.out.blk.lt; omega)), HFM3.out.kept hg4 (by intro e; have := Option.some.inj e; omega)⟩
      case measure => rw [(HR3.out.kept hg4 (by intro e; have := Option.some.inj e; omega) (by intro e; have := Option.some.inj e; omega)).left_eq, HRG.out.left_eq]; exact hlt

end Go.Proofs.YtpeafckomahjgaaGreatDoor
