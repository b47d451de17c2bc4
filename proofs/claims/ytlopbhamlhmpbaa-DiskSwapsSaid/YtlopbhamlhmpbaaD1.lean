/- The law DiskFull, walked. -/
import Derived.Test.YtlopbhamlhmpbaaC9
import Derived.Deep.DeepCutAuto
namespace Go.Proofs.Ytlopbhamlhmpbaa
open Go.RowKit Go.Maps Go.Sort
set_option linter.unusedVariables false

theorem sum_one {α : Type} (g : α → Int) : ∀ es : List α, (∀ p ∈ es, g p = 1) → (es.map g).sum = es.length
  | [], _ => rfl
  | p :: es, h => by
    rw [List.map_cons, List.sum_cons, h p (by simp), sum_one g es fun q hq => h q (by simp [hq])]
    simp; omega
def oneF : Int → Option FR := fun _ => some { bytes := [0], firm := 0 }
theorem size_used {f : Int → Option FR} {D : DU} (g : Good f D) : usedOf oneF D = Maps.size D := by
  have hc := g.canon.canon law9.one
  have hint := g.ints
  obtain ⟨es, rfl, hp, hk⟩ := g.canon
  show (es.map (flen oneF)).sum = _
  refine sum_one _ es fun p hpm => ?_
  obtain ⟨key, hkey⟩ := hk p hpm
  obtain ⟨s, e⟩ := key_string hkey
  have hh : has (.map es : DU) (.string s) = true := by
    rw [has_eq, List.any_eq_true]
    exact ⟨p, hpm, by rw [e]; simp [Lit.sameKey]⟩
  rw [has_look hint] at hh
  obtain ⟨n, hl⟩ := Option.isSome_iff_exists.1 hh
  obtain ⟨es', q, e', hq, hq1, hq2, huniq⟩ := find_entry hc (look_some hint hl)
  cases e'
  have := huniq p hpm e
  subst this
  unfold flen
  rw [hq2]
  rfl
theorem size_keys {f : Int → Option FR} {D : DU} (g : Good f D) {ks : List (List UInt8)} (hn : ks.Nodup) (hc : ∀ l n, look D l = some n → l ∈ ks) : Maps.size D ≤ ks.length := by
  have g1 : Good oneF D := g.mono fun l n r _ _ => ⟨_, rfl⟩
  have h1 := size_used g
  rw [used_keys g1 hn hc] at h1
  have : ∀ ks : List (List UInt8), (ks.map (flk oneF D)).sum ≤ ks.length := by
    intro ks
    induction ks with
    | nil => simp
    | cons k ks ih =>
      rw [List.map_cons, List.sum_cons, List.length_cons]
      have : flk oneF D k ≤ 1 := by
        unfold flk oneF
        cases look D k with
        | none => simp
        | some n => simp
      omega
  have := this ks
  omega

theorem Dsk.refit {w : World} {B d N M : Nat} {S : AS} (h : Dsk w B d N S) (h1 : S.last ≤ M) (h2 : S.loose.length ≤ M) (h3 : M ≤ 1000000000000) : Dsk w B d M S :=
  ⟨⟨h.inv.left, h.inv.room, ⟨h.inv.last.1, h1⟩, h2, h.inv.now, h.inv.good, h.inv.chs, h.inv.file⟩, h.mem, h3, h.base⟩

def ks3 : List (List UInt8) := [[97], [98], [99]]
structure Full (S : AS) : Prop where
  on : S.on = true
  armed : S.armed = false
  keys : ∀ l n, look S.names l = some n → l ∈ ks3
  last : S.last = Maps.size S.names
  loose : S.loose.length = Maps.size S.names
theorem full_new (room : Int) : Full (AS.new room) := ⟨rfl, rfl, fun l n h => (by cases h), rfl, rfl⟩
theorem Full.check {S : AS} (h : Full S) {f : List UInt8} (hf : f ∈ ks3) : checkOf S.on [f] = 0 := by
  rw [h.on]
  simp only [ks3, List.mem_cons, List.not_mem_nil, or_false] at hf
  rcases hf with rfl | rfl | rfl <;> kernel_rfl
theorem Full.wrote {S S' : AS} (h : Full S) {f data : List UInt8} (hf : f ∈ ks3) (hw : Wrote S S' f data) : Full S' :=
  ⟨hw.on.trans h.on, hw.armed.trans h.armed, hw.keys hf h.keys, by rw [hw.sizes.1, hw.sizes.2.1, h.last]; split <;> rfl, by rw [hw.sizes.1, hw.sizes.2.2, h.loose]⟩

theorem PicksAt.cell {w : World} {g : Nat} {A : Option Addr} {n c : Nat} {ps : List Int} (h : PicksAt w g A n c ps) {k : Nat} (hk : k < n) :
    ∃ ad, A = some ad ∧ ∃ p, ps[k]? = some p ∧ w.cell? (ad.add k) = some (.int .i64 p) ∧ -9223372036854775808 ≤ p ∧ p ≤ 9223372036854775807 := by
  obtain ⟨off, e, hc⟩ := h.at_ (by omega)
  have hl := h.len
  have hk' : k < ps.length := by omega
  have add : ((⟨g, off, none⟩ : Addr).add k) = ⟨g, off + k, none⟩ := by unfold Addr.add; split <;> simp_all
  exact ⟨_, e, ps[k], List.getElem?_eq_getElem hk', by rw [add]; exact hc k hk', h.rng _ (List.getElem_mem hk')⟩
theorem StrsAt.cell {w : World} {g : Nat} {A : Option Addr} {n c : Nat} {ss : List (List UInt8)} (h : StrsAt w g A n c ss) {k : Nat} (hk : k < n) :
    ∃ ad, A = some ad ∧ ad.block = g ∧ ∃ s, ss[k]? = some s ∧ w.cell? (ad.add k) = some (.string ⟨s.toArray⟩) ∧ s.length ≤ maxLen := by
  obtain ⟨off, e, hc⟩ := h.at_ (by omega)
  have hl := h.len
  have hk' : k < ss.length := by omega
  have add : ((⟨g, off, none⟩ : Addr).add k) = ⟨g, off + k, none⟩ := by unfold Addr.add; split <;> simp_all
  exact ⟨_, e, rfl, ss[k], List.getElem?_eq_getElem hk', by rw [add]; exact hc k hk', h.small _ (List.getElem_mem hk')⟩
theorem Mid.strs {w w1 : World} {d N g n c : Nat} {A : Option Addr} {ss : List (List UInt8)} {S : AS} (h : Mid w d N S w1) (hp : StrsAt w g A n c ss) : StrsAt w1 g A n c ss :=
  hp.below h.bel hp.lt h.bel.size

theorem pick3 (k : Nat) : ∃ f : List UInt8, f ∈ ks3 ∧ [Value.string { data := #[97] }, Value.string { data := #[98] }, Value.string { data := #[99] }][k % 3]? = some (.string ⟨f.toArray⟩) := by
  have : k % 3 = 0 ∨ k % 3 = 1 ∨ k % 3 = 2 := by omega
  rcases this with h | h | h <;> rw [h]
  · exact ⟨[97], by simp [ks3], rfl⟩
  · exact ⟨[98], by simp [ks3], rfl⟩
  · exact ⟨[99], by simp [ks3], rfl⟩
theorem ks3_len {f : List UInt8} (hf : f ∈ ks3) : f.length ≤ maxLen := by
  simp only [ks3, List.mem_cons, List.not_mem_nil, or_false] at hf
  rcases hf with rfl | rfl | rfl <;> decide

set_option maxRecDepth 100000 in
set_option maxHeartbeats 8000000 in
theorem diskfull_any (w : World) (room : Int) (g n c g2 n2 c2 : Nat) (A A2 : Option Addr) (ss : List (List UInt8)) (ps : List Int) (hs : StrsAt w g A n c ss) (hbig : ∀ s ∈ ss, s.length ≤ 140737488355328) (hp : PicksAt w g2 A2 n2 c2 ps) :
    Calls Try.prog 6 #[.int .i64 room, .slice A n c, .slice A2 n2 c2] w fun e w' => e = .returned (.bool true) ∧ Below w.heap.size w w' := by
  have HS := Lib.hid hs
  have HP := Lib.hid hp
  clear hs hp
  go_enter Try.func6, Try.ntmps6
  go_wp2_with fail
  refine (awake_any _).mono ?_
  rintro e w1 ⟨rfl, b⟩
  have HB := Lib.hid b
  clear b
  go_wp2_with fail
  refine (m_new room w1 w.heap.size HB.out.size).mono ?_
  rintro e w2 ⟨d, rfl, h0, f0⟩
  have hm : Mid w d 64 (AS.new room) w2 := ⟨h0.more (by omega) (by omega), HB.out.trans (f0.below.mono HB.out.size)⟩
  have hro := hm.dsk.inv.room
  have HM := Lib.hid hm
  have HF := Lib.hid (full_new room)
  clear HB f0 hm h0
  obtain ⟨S, hS⟩ : ∃ S, AS.new room = S := ⟨_, rfl⟩
  rw [hS] at HM hro
  have HF : Hid (Full S) := by rw [← hS]; exact HF
  clear hS
  go_wp2_with fail
  refine (m_room HM.out.dsk).mono ?_
  rintro e w' ⟨rfl, rfl⟩
  have hr1 : (decide (S.room < 0)) = false := by simp; omega
  have hr2 : (decide (S.room > 16777216)) = false := by simp; omega
  go_wp2_with fail
  go_loopw [9, 10] (fun zv iv wr => ∃ (k : Nat) (S : AS), k ≤ n ∧ iv = .int .i64 k ∧ zv = .int .i64 S.room ∧ Mid w d 64 S wr ∧ Full S) (fun _ iv _ => n - (intOf iv).toNat)
  case atStart => exact ⟨0, S, Nat.zero_le _, rfl, rfl, HM.out, HF.out⟩
  case round =>
    obtain ⟨k, S, hk, rfl, rfl, hM, hF⟩ := hrel
    have hcap := HS.out.cap
    have hcap2 : n ≤ 9223372036854775807 := by have := hcap.2; unfold maxLen at this; omega
    have HM := Lib.hid hM
    have HF := Lib.hid hF
    clear hM hF
    by_cases hkn : k < n
    · go_upto_region 11 with fail
      go_cut [52] (fun b wx => wr = wx ∧ ∃ bb : Bool, b = .bool bb ∧ (bb = true → k < n2))
      case first =>
        by_cases hk2 : k < n2
        · obtain ⟨ad, rfl, p, _, hcell, _, _⟩ := (HM.out.picks HP.out).cell hk2
          have hn2 := HP.out.cap
          go_wp2_with fail
          go_meet
          exact ⟨rfl, _, rfl, fun _ => hk2⟩
        · go_wp2_with fail
          go_meet
          exact ⟨rfl, false, rfl, fun h => (by cases h)⟩
      case rest =>
      obtain ⟨rfl, bb, rfl, hbb⟩ := hcut
      go_upto_if 52 with fail
      go_cut [9] (fun zv wx => ∃ S' : AS, zv = .int .i64 S'.room ∧ Mid w d 64 S' wx ∧ Full S')
      case first =>
        cases bb with
        | true =>
          obtain ⟨ad, rfl, p, _, hcell, _, hpm⟩ := (HM.out.picks HP.out).cell (hbb rfl)
          have hn2 := HP.out.cap
          have hk2 := hbb rfl
          go_wp2_with fail
          refine (m_limit HM.out.dsk p).mono ?_
          rintro e wx ⟨rfl, h1, b1⟩
          have HM1 := Lib.hid (HM.out.turn h1 b1)
          clear h1 b1
          go_wp2_with fail
          refine (m_room HM1.out.dsk).mono ?_
          rintro e wx ⟨rfl, rfl⟩
          go_wp2_with fail
          go_meet
          exact ⟨S.limit p, rfl, HM1.out, ⟨HF.out.on, HF.out.armed, HF.out.keys, HF.out.last, HF.out.loose⟩⟩
        | false =>
          go_wp2_with fail
          go_meet
          exact ⟨S, rfl, HM.out, HF.out⟩
      case rest =>
      obtain ⟨S', rfl, hM', hF'⟩ := hcut
      have HM1 := Lib.hid hM'
      have HF1 := Lib.hid hF'
      clear hM' hF' hbb HM HF
      go_upto_region 14 with fail
      go_cut [11] (fun s wx => ∃ f : List UInt8, f ∈ ks3 ∧ s = .string ⟨f.toArray⟩ ∧ Mid w d 64 S' wx)
      case first =>
        obtain ⟨f, hf, hrow⟩ := pick3 k
        go_wp2_with fail
        go_meet
        exact ⟨f, hf, rfl, HM1.out.keep ((Fr.refl _ _).alloc _)⟩
      case rest =>
      obtain ⟨f, hf, rfl, hM'⟩ := hcut
      have HM2 := Lib.hid hM'
      clear hM' HM1
      have hfl := ks3_len hf
      have hchk := HF1.out.check hf
      go_wp2_with fail
      refine (m_read HM2.out.dsk f hfl).mono ?_
      rintro e wx ⟨rfl, fr⟩
      have HM3 := Lib.hid (HM2.out.keep fr)
      clear HM2 fr
      go_wp2_with fail
      refine (m_used HM3.out.dsk HF1.out.on).mono ?_
      rintro e wy ⟨rfl, fr⟩
      have HM4 := Lib.hid (HM3.out.keep fr)
      clear HM3 fr
      obtain ⟨ad, rfl, _, data, hdat, hcell, hdl⟩ := (HM4.out.strs HS.out).cell hkn
      go_wp2_with fail
      refine (m_write HM4.out.dsk (by omega) f data hfl hdl).mono ?_
      rintro e wz ⟨rfl, h1, b1⟩
      have hdb := hbig data (List.mem_of_getElem? hdat)
      have hi4 := HM4.out.dsk.inv
      have hU0 := @used_nonneg S'.file S'.names
      have hU1 := usedOf_le (f := S'.file) (M := 16777216) (fun n r hr => by have := (hi4.file n r hr).2.2.2; omega) (by omega) S'.names
      have hU2 := hi4.names.small
      have h3 := size_keys hi4.names (ks := ks3) (by decide) HF1.out.keys
      have hlast := HF1.out.last
      have hloose := HF1.out.loose
      have hroom := hi4.room
      have hks : ks3.length = 3 := rfl
      have t1 : IntKind.i64.wrap (usedOf S'.file S'.names + data.length) = usedOf S'.file S'.names + data.length := IntWalk.i64_in _ (by omega)
      have hsd : (⟨data.toArray⟩ : ByteArray).size = data.length := by simp [ByteArray.size]
      by_cases hful : S'.room < usedOf S'.file S'.names + data.length
      · have hwr : S'.write f data = (S', 12) := by unfold AS.write; rw [if_pos hchk, if_pos hful]
        rw [hwr] at h1 ⊢
        have h1' : Dsk wz w.heap.size d (64 + 1) S' := h1
        have HM5 := Lib.hid (HM4.out.turn (h1'.refit (M := 64) (by omega) (by omega) (by omega)) b1)
        obtain ⟨ad', e', _, data', hdat', hcell, hdl'⟩ := (HM5.out.strs HS.out).cell hkn
        cases e'
        rw [hdat] at hdat'
        cases hdat'
        clear HM4 h1 h1' b1 hwr hi4 hU2 h3 hlast hloose
        go_wp2_with fail
        refine (m_read HM5.out.dsk f hfl).mono ?_
        rintro e wx ⟨rfl, fr⟩
        have HM6 := Lib.hid (HM5.out.keep fr)
        clear HM5 fr hcell
        obtain ⟨ad', e', _, data', hdat', hcell, hdl'⟩ := (HM6.out.strs HS.out).cell hkn
        cases e'
        rw [hdat] at hdat'
        cases hdat'
        go_wp2_with fail
        refine (m_used HM6.out.dsk HF1.out.on).mono ?_
        rintro e wy ⟨rfl, fr⟩
        have HM7 := Lib.hid (HM6.out.keep fr)
        clear HM6 fr hcell
        go_wp2
        refine ⟨⟨k + 1, S', by omega, by go_num, rfl, HM7.out, HF1.out⟩, by simp [intOf]; omega⟩
      · obtain ⟨hg0, hwrote⟩ := wrote hi4 HF1.out.armed hchk hful (by omega)
        rw [hg0]
        obtain ⟨S2, hS2⟩ : ∃ S2, (S'.write f data).1 = S2 := ⟨_, rfl⟩
        rw [hS2] at h1 hwrote
        have hF2 := HF1.out.wrote hf hwrote
        have hused := hwrote.used hi4.names h1.inv.names (by decide) hf HF1.out.keys
        have hread : S2.read f = ((S'.read f).1 ++ data, 0) := by
          rw [cont_read (hF2.check hf), hwrote.cont, cont_read hchk]
          cases S'.cont f <;> rfl
        have hsz2 := hwrote.sizes
        have HF2 := Lib.hid hF2
        have h3' := size_keys h1.inv.names (ks := ks3) (by decide) hF2.keys
        have hlast' := hF2.last
        have hloose' := hF2.loose
        have HM5 := Lib.hid (HM4.out.turn (h1.refit (M := 64) (by omega) (by omega) (by omega)) b1)
        have hrm := hwrote.room
        have HIV := Lib.hid hi4
        clear HM4 h1 b1 hi4 hU2 h3 hlast hloose h3' hlast' hloose' hwrote hg0 hsz2 hF2 hS2
        go_wp2_with fail
        refine (m_read HM5.out.dsk f hfl).mono ?_
        rintro e wx ⟨rfl, fr⟩
        rw [hread]
        have HM6 := Lib.hid (HM5.out.keep fr)
        clear HM5 fr
        obtain ⟨ad', e', _, data', hdat', hcell, hdl'⟩ := (HM6.out.strs HS.out).cell hkn
        cases e'
        rw [hdat] at hdat'
        cases hdat'
        have hrl : (S'.read f).1.length ≤ 16777216 := by
          unfold AS.read
          rw [if_pos hchk]
          cases hl : look S'.names f with
          | none => simp
          | some m => cases hr : S'.file m with
            | none => simp only [hr]; simp
            | some r => simp only [hr]; exact (HIV.out.file m r hr).2.2.2
        have hcat : ∀ w0, (Op.stringOp .add ⟨(S'.read f).1.toArray⟩ ⟨data.toArray⟩).run Try.prog w0 = .ok (.string ⟨((S'.read f).1 ++ data).toArray⟩) w0 := fun w0 => by
          rw [run_string_add_sum w0 _ _ (by simp [ByteArray.size]; omega), ByteArray.mk_append_mk]
        have hcr : ∀ dd os, (grow (redrawn wx dd) os).cell? (ad.add k) = some (.string ⟨data.toArray⟩) := fun dd os => cell_regrown hcell dd os
        have hu : ∀ d1 os, Calls Try.prog 21 #[.pointer (some ⟨d, 0, none⟩)] (grow (redrawn wx d1) os) fun e w' => e = .returned (.int .i64 (usedOf S'.file S'.names + data.length)) ∧ ∃ p : Regrown, w' = grow (redrawn wx p.d) p.os := by
          intro d1 os
          have hk := HM6.out.dsk.below (below_regrown wx d1 os)
          have := m_used hk HF2.out.on
          rw [hused] at this
          exact Calls.regrown_of (this.mono fun e w' ⟨h1, h2⟩ => ⟨h1, h2.below⟩)
        have HU := Lib.hid hu
        clear hu hused
        go_upto_region 22 with fail
        refine wp_region_quiet_below mixed (by kernel_rfl) ?_
        repeat (first | go_big_quiet_step (exact HU.out _ _) | quiet_step (exact HU.out _ _))
        refine wpQuiet_nil ?_
        intro w3 hp
        have hb3 : Below wx.heap.size wx w3 := by obtain ⟨p, rfl⟩ := hp; exact below_regrown _ _ _
        have HM7 := Lib.hid (HM6.out.keep (Fr.of_below hb3))
        clear hp hb3 HM6 hcell hcat hcr HU t1
        go_wp2
        refine ⟨⟨k + 1, S2, by omega, by go_num, by rw [hrm], HM7.out, HF2.out⟩, by simp [intOf]; omega⟩
    · go_wp2_with fail
      refine (m_on HM.out.dsk).mono ?_
      rintro e wx ⟨rfl, rfl⟩
      have e1 : S.on = true := HF.out.on
      rw [e1]
      go_wp2
      go_ret
      exact ⟨rfl, HM.out.bel⟩

end Go.Proofs.Ytlopbhamlhmpbaa
