/- One file alone: synced, settled, crashed (no program here). -/
import Derived.Test.YtlopbhamlhmpbaaD1
namespace Go.Proofs.Ytlopbhamlhmpbaa
open Go.RowKit Go.Maps Go.Sort
set_option linter.unusedVariables false

theorem strKeys_one {f : Int → Option FR} {D : DU} (g : Good f D) {l : List UInt8} {n : Int} (hk : ∀ s m, look D s = some m → s = l) (hl : look D l = some n) : strKeys D = [l] := by
  have hs := size_keys g (ks := [l]) (by simp) (fun s m h => by rw [hk s m h]; simp)
  have hint := g.ints
  obtain ⟨es, rfl, hp, hko⟩ := g.canon
  match es, hs with
  | [], _ => cases hl
  | [p], _ =>
    obtain ⟨key, hkey⟩ := hko p (by simp)
    obtain ⟨s, e⟩ := key_string hkey
    have hh : has (.map [p] : DU) (.string s) = true := by
      rw [has_eq, List.any_eq_true]
      exact ⟨p, by simp, by rw [e]; simp [Lit.sameKey]⟩
    rw [has_look hint] at hh
    obtain ⟨m, hm⟩ := Option.isSome_iff_exists.1 hh
    have := hk s m hm
    subst this
    show [strOf p.1] = [s]
    rw [e]; rfl
  | p :: q :: es, hs => simp [Maps.size] at hs

theorem crash_full {r : FR} (ps : List Int) (h : r.firm = r.bytes.length) : r.crash ps = r := by
  unfold FR.crash
  rw [if_neg (by omega)]
  cases r
  simp only at h
  subst h
  rfl

/-- A crash where no name is loose. -/
theorem crash_calm {S : AS} (ps : List Int) (hl : S.loose = []) {l : List UInt8} {n : Int} {r : FR} (g : Good S.file S.firm) (hk : ∀ s m, look S.firm s = some m → s = l) (hn : look S.firm l = some n) (hr : S.file n = some r) :
    (S.crashed ps).names = S.firm ∧ (S.crashed ps).firm = S.firm ∧ (S.crashed ps).loose = [] ∧ (S.crashed ps).on = true ∧ (S.crashed ps).armed = false ∧ (S.crashed ps).last = S.last ∧ (S.crashed ps).room = S.room ∧ (S.crashed ps).file n = some (r.crash ps.tail) := by
  have hp : ∀ k, past S k = S.firm := fun k => by unfold past; rw [hl]; simp
  have hs : sortedKeys S.firm = [l] := sorted_one (strKeys_one g hk hn)
  rw [crashed_at S ps [l] (by rw [hp]; exact hs)]
  unfold AS.crashedAt
  rw [hp]
  refine ⟨rfl, rfl, rfl, rfl, rfl, rfl, rfl, ?_⟩
  show (if keeps S.firm n = true then (List.foldl (crashStep S.firm) (S.file, ps.tail) [l]).1 n else none) = _
  rw [if_pos (keeps_of g hn)]
  show (crashStep S.firm (S.file, ps.tail) l).1 n = _
  rw [crashStep_some hn hr]
  exact upd_same _ _ _

theorem sync_calm {S : AS} {l : List UInt8} {n : Int} {r : FR} (ha : S.armed = false) (hE : checkOf S.on [l] = 0) (hn : look S.names l = some n) (hr : S.file n = some r) :
    (S.sync l).2 = 0 ∧ (S.sync l).1.names = S.names ∧ (S.sync l).1.firm = S.firm ∧ (S.sync l).1.loose = S.loose ∧ (S.sync l).1.on = S.on ∧ (S.sync l).1.armed = false ∧ (S.sync l).1.last = S.last ∧ (S.sync l).1.room = S.room ∧ (S.sync l).1.file n = some { bytes := r.bytes, firm := r.bytes.length } ∧ ∀ m, m ≠ n → (S.sync l).1.file m = S.file m := by
  have hs := stepE_calm ha
  unfold AS.sync
  rw [if_pos hE, hn]
  simp only [hr]
  rw [if_pos hs]
  simp only
  rw [step_calm ha]
  exact ⟨trivial, rfl, rfl, rfl, rfl, ha, rfl, rfl, upd_same _ _ _, fun m hm => upd_other _ _ hm⟩
theorem settle_calm {S : AS} (hon : S.on = true) (ha : S.armed = false) : S.settle.2 = 0 ∧ S.settle.1.names = S.names ∧ S.settle.1.firm = S.names ∧ S.settle.1.loose = [] ∧ S.settle.1.on = true ∧ S.settle.1.armed = false ∧ S.settle.1.last = S.last ∧ S.settle.1.room = S.room ∧
    ∀ m, keeps S.names m = true → S.settle.1.file m = S.file m := by
  have hs := stepE_calm ha
  unfold AS.settle
  rw [if_pos hon, if_pos hs]
  simp only
  rw [step_calm ha]
  exact ⟨trivial, rfl, rfl, rfl, hon, ha, rfl, rfl, fun m hm => if_pos hm⟩

/-- One file, and no other. -/
structure Sole (S : AS) (l data : List UInt8) : Prop where
  on : S.on = true
  armed : S.armed = false
  ok : nameOk l = true
  keys : ∀ s m, look S.names s = some m → s = l
  file : ∃ n r, look S.names l = some n ∧ S.file n = some r ∧ r.bytes = data
  last : S.last ≤ 64
theorem Sole.check {S : AS} {l data : List UInt8} (h : Sole S l data) : checkOf S.on [l] = 0 := by
  rw [h.on]; unfold checkOf; simp [h.ok]

theorem Sole.after {S : AS} {l data : List UInt8} (h : Sole S l data) (g : Good S.file S.names) (g1 : Good (S.sync l).1.settle.1.file (S.sync l).1.settle.1.firm) (ps : List Int) :
    (S.sync l).2 = 0 ∧ (S.sync l).1.settle.2 = 0 ∧ Sole ((S.sync l).1.settle.1.crashed ps) l data ∧ ((S.sync l).1.settle.1.crashed ps).loose = [] ∧ sortedKeys ((S.sync l).1.settle.1.crashed ps).names = [l] := by
  obtain ⟨n, r, hn, hr, hd⟩ := h.file
  obtain ⟨a1, a2, a3, a4, a5, a6, a7, a8, a9, a10⟩ := sync_calm h.armed h.check hn hr
  obtain ⟨b1, b2, b3, b4, b5, b6, b7, b8, b9⟩ := settle_calm (S := (S.sync l).1) (a5.trans h.on) a6
  have e : (S.sync l).1.settle.1.firm = S.names := b3.trans a2
  have hkp : keeps (S.sync l).1.names n = true := by rw [a2]; exact keeps_of g hn
  obtain ⟨c1, c2, c3, c4, c5, c6, c7, c8⟩ := crash_calm ps b4 g1 (l := l) (n := n) (r := { bytes := r.bytes, firm := r.bytes.length }) (by rw [e]; exact h.keys) (by rw [e]; exact hn) ((b9 n hkp).trans a9)
  rw [crash_full _ rfl] at c8
  refine ⟨a1, b1, ⟨c4, c5, h.ok, by rw [c1, e]; exact h.keys, ⟨n, _, by rw [c1, e]; exact hn, c8, hd⟩, by rw [c6, b7, a7]; exact h.last⟩, c3, ?_⟩
  rw [c1, e]
  exact sorted_one (strKeys_one g h.keys hn)
theorem Sole.read {S : AS} {l data : List UInt8} (h : Sole S l data) : S.read l = (data, 0) := by
  obtain ⟨n, r, hn, hr, hd⟩ := h.file
  unfold AS.read
  rw [if_pos h.check, hn]
  simp only [hr, hd]

theorem Sole.renamed {S : AS} {l t data : List UInt8} (h : Sole S l data) (g : Good S.file S.names) (ht : nameOk t = true) : (S.rename l t).2 = 0 ∧ Sole (S.rename l t).1 t data := by
  obtain ⟨n, r, hn, hr, hd⟩ := h.file
  have hE : checkOf S.on [l, t] = 0 := by rw [h.on]; unfold checkOf; simp [h.ok, ht]
  unfold AS.rename
  rw [if_pos hE, hn]
  simp only
  by_cases e : l = t
  · rw [if_pos e]
    refine ⟨stepE_calm h.armed, ?_⟩
    rw [step_calm h.armed]
    exact ⟨h.on, h.armed, ht, fun s m hs => (h.keys s m hs).trans e, ⟨n, r, by rw [← e]; exact hn, hr, hd⟩, h.last⟩
  · rw [if_neg e]
    have hne : t ≠ [] := by intro e; subst e; simp [nameOk] at ht
    have en : (S.renamed l t n).names = (S.names.del (.string l)).put (.string t) (.lit (.int .i64 n)) := by
      show (Ch.mk l t n).app S.names = _
      unfold Ch.app; simp only; rw [if_neg hne]
    refine ⟨stepE_calm (S := S.renamed l t n) h.armed, ?_⟩
    rw [step_calm (S := S.renamed l t n) h.armed]
    have hm : IsMap (S.names.del (.string l)) := by
      obtain ⟨es, he⟩ := g.isMap
      rw [he]; exact ⟨_, rfl⟩
    refine ⟨h.on, h.armed, ht, fun s m hs => ?_, ⟨n, r, ?_, hr, hd⟩, h.last⟩
    · have hs' : look (S.renamed l t n).names s = some m := hs
      rw [en] at hs'
      by_cases es : s = t
      · exact es
      · rw [look_put_other es] at hs'
        by_cases el : s = l
        · subst el; rw [look_del_same] at hs'; cases hs'
        · rw [look_del_other el] at hs'; exact absurd (h.keys s m hs') el
    · show look (S.renamed l t n).names t = some n
      rw [en, look_put_same hm]

theorem new_sole {l data : List UInt8} (hok : nameOk l = true) (hd : data.length ≤ 16777216) : ((AS.new 16777216).write l data).2 = 0 ∧ Sole ((AS.new 16777216).write l data).1 l data := by
  have hE : checkOf (AS.new 16777216).on [l] = 0 := by show checkOf true [l] = 0; unfold checkOf; simp [hok]
  have h0 : usedOf (AS.new 16777216).file (AS.new 16777216).names = 0 := rfl
  have hrm : (AS.new 16777216).room = 16777216 := by kernel_rfl
  obtain ⟨h1, hw⟩ := wrote (inv_new 16777216) rfl hE (data := data) (by rw [h0, hrm]; omega) (by decide)
  refine ⟨h1, ⟨hw.on.trans rfl, hw.armed.trans rfl, hok, fun s m hs => ?_, ?_, by rw [hw.sizes.2.1]; show (0 : Int) + (if (none : Option Int).isSome then 0 else 1) ≤ 64; decide⟩⟩
  · by_cases e : s = l
    · exact e
    · rw [(hw.rest s e).1] at hs; cases hs
  · obtain ⟨n, k, h2, h3⟩ := hw.now
    exact ⟨n, _, h2, h3, rfl⟩

theorem write_noname {S : AS} {l data : List UInt8} (hon : S.on = true) (hok : nameOk l = false) : S.write l data = (S, 10) := by
  have hE : checkOf S.on [l] = 10 := by rw [hon]; unfold checkOf; simp [hok]
  unfold AS.write; rw [if_neg (by rw [hE]; decide), hE]
theorem rename_noname {S : AS} {l t : List UInt8} (hon : S.on = true) (hok : nameOk t = false) : S.rename l t = (S, 10) := by
  have hE : checkOf S.on [l, t] = 10 := by rw [hon]; unfold checkOf; simp [hok]
  unfold AS.rename; rw [if_neg (by rw [hE]; decide), hE]

end Go.Proofs.Ytlopbhamlhmpbaa
