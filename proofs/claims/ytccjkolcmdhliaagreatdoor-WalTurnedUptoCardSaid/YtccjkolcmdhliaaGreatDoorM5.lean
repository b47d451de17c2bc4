/- Opening a log: all segments are read. -/
import Derived.Test.YtccjkolcmdhliaaGreatDoorM4
import Derived.Test.YtccjkolcmdhliaaGreatDoorM2
import Derived.Recover
namespace Go.Proofs.YtccjkolcmdhliaaGreatDoor
open Go.RowKit Go.Maps
set_option linter.unusedVariables false

theorem Grow.keepG {b : Nat} {w w' : World} {v : Value} {l : List RcP} (h : Grow b 52 2 recG w v l) {F : Nat → Prop} (hf : Fr F w w') (hF : ∀ k, v.ownBlock = some k → ¬ F k) : Grow b 52 2 recG w' v l := by
  obtain ⟨K, xs, ho, hel, hK⟩ := h
  refine ⟨K, xs, own_of ho fun k hk => hf.block k (ho.lt k hk).2 (hF k hk), fun j hj => ?_, fun k hk => ?_⟩
  · obtain ⟨cs, h1, h2, h3⟩ := hel j hj
    exact ⟨cs, h1, h2, h3⟩
  · obtain ⟨h1, h2, h3⟩ := hK k hk
    exact ⟨h1, Nat.lt_of_lt_of_le h2 hf.size, h3⟩
theorem Lg.dk {w : World} {X : Nat → Prop} {d g N : Nat} {S : AS} {L : LS} (h : Lg w X d g N S L) : Dk w X d N S := by
  obtain ⟨fv, h1, h2, h3, h4⟩ := h.log
  exact h2.less fun k hk => .inl hk
theorem Lg.base {w : World} {X : Nat → Prop} {d g N : Nat} {S : AS} {L : LS} (h : Lg w X d g N S L) : ∀ k, X k → k < w.heap.size := h.dk.base
/-- What is new joins the law's own. -/
theorem Lg.grow {w w' : World} {X Y F : Nat → Prop} {d g N : Nat} {S : AS} {L : LS} (h : Lg w X d g N S L) (hf : Fr F w w') (hF : ∀ k, F k → X k ∧ 4 ≤ k) (hXY : ∀ k, X k → Y k) (hY : ∀ k, Y k → k < w'.heap.size ∧ (X k ∨ w.heap.size ≤ k)) : Lg w' Y d g N S L := by
  obtain ⟨fv, h1, h2, h3, h4⟩ := h.log
  have hnX : ∀ k, (k = g ∨ fv.ownBlock = some k) → ¬ X k := fun k hk hx => by
    rcases hk with rfl | hk
    · exact h3 hx
    · exact h4 k hk hx
  have hnY : ∀ k, (k = g ∨ fv.ownBlock = some k) → ¬ Y k := fun k hk hy => by
    rcases (hY k hy).2 with hx | hx
    · exact hnX k hk hx
    · have := h1.lt k hk; omega
  refine ⟨h.vr.of fun k hk => hf.block k (by have := h.vr.lt; omega) fun e => by have := (hF k e).2; omega, fun k hk => hXY k (h.lo k hk), ⟨fv, h1.of fun k hk => hf.block k (h1.lt k hk) fun e => hnX k hk (hF k e).1, ?_, hnY g (.inl rfl), fun k hk => hnY k (.inr hk)⟩, h.ok, h.big⟩
  refine h2.grow (hf.mono fun k _ hk => .inl (hF k hk).1) fun k hk => ?_
  rcases hk with hk | hk
  · rcases hY k hk with ⟨e1, e2 | e2⟩
    · exact ⟨e1, .inl (.inl e2)⟩
    · exact ⟨e1, .inr e2⟩
  · exact ⟨Nat.lt_of_lt_of_le (h1.lt k hk) hf.size, .inl (.inr hk)⟩
theorem lg_list {w : World} {X : Nat → Prop} {d g N : Nat} {S : AS} {L : LS} (h : Lg w X d g N S L) (hon : S.on = true) :
    Calls Tryz.prog 44 #[dkp d] w fun e w' => ∃ A c, e = .returned (.slice A (sortedKeys S.names).length c) ∧ w'.ownsRow w.heap.size 9 1 (.slice A (sortedKeys S.names).length c) (sortedKeys S.names).length ((sortedKeys S.names).map encStr) ∧ Fr No w w' := by
  obtain ⟨fv, hL, hk, h3, h4⟩ := h.log
  exact x_list hk hon

theorem numW_name (s : List UInt8) (h : 0 < numW s) : numW s ≤ 99999999 := by
  unfold numW at h ⊢
  split at h
  · rename_i v hv
    split at h
    · rename_i hs
      simp only [hs, if_true]
      by_cases hb : v ≤ 99999999
      · exact hb
      · exfalso
        have he : nameW v = [] := by unfold nameW; rw [if_pos (.inr (by omega))]
        rw [he] at hs
        subst hs
        have ha : (match Lib.atoiAll (Lib.trimPrefix [] walL) with | .ok _ => true | _ => false) = false := by rfl
        rw [hv] at ha
        exact nomatch ha
    · omega
  · omega
theorem segsW_bd (ns : List (List UInt8)) : ∀ m ∈ segsW ns, 1 ≤ m ∧ m ≤ 99999999 := by
  intro m hm
  unfold segsW at hm
  obtain ⟨h1, h2⟩ := List.mem_filter.1 hm
  obtain ⟨s, hs, rfl⟩ := List.mem_map.1 h1
  have hp : 0 < numW s := by simpa using h2
  exact ⟨hp, numW_name s hp⟩

abbrev LdP := List RcP × LS × Bool
def lastSeq (rs : List RcP) : Int := match rs.getLast? with | some q => q.seq | none => 0
def loadStep (S : AS) (first : Bool) (x : LdP) (m : Int) : Except Int LdP :=
  if first = false ∧ m ≠ x.2.1.number + 1 then .error 24
  else if x.2.2 = true then .error 24
  else if (S.read (nameW m)).2 ≠ 0 then .error (S.read (nameW m)).2
  else match scanW ((S.read (nameW m)).1.length + 1) x.1 (S.read (nameW m)).1 0 with
    | none => .error 24
    | some (rs, at_) => .ok (rs, { x.2.1 with size := at_, files := x.2.1.files ++ [⟨m, if x.1.length < rs.length then lastSeq rs else 0⟩] }, decide (at_ < (S.read (nameW m)).1.length))
def loadW (S : AS) : Bool → LdP → List Int → Except Int LdP
  | _, x, [] => .ok x
  | first, x, m :: ms => match loadStep S first x m with
    | .error e => .error e
    | .ok y => loadW S false y ms
def LoadP (X : Nat → Prop) (d g N : Nat) (S : AS) (w : World) (R : Except Int LdP) (e : Ending) (w' : World) : Prop :=
  (∀ x, R = .ok x → ∃ A c X1 b1, e = .returned (.tuple #[.slice A x.1.length c, .bool x.2.2]) ∧ (∀ k, X k → X1 k) ∧ Lg w' X1 d g N S x.2.1 ∧ Grow b1 52 2 recG w' (.slice A x.1.length c) x.1 ∧ w.heap.size ≤ b1 ∧ (∀ k, (Value.slice A x.1.length c).ownBlock = some k → X1 k ∧ w.heap.size ≤ k)) ∧
    (∀ n, R = .error n → e = .panicked [{ v := given n, recovered := false }]) ∧ Dk w' X d N S ∧ Vr w' ∧ Fr (fun k => ¬ X k) w w'
theorem read_len {N : Nat} {S : AS} (h : Inv N S) (l : List UInt8) : (S.read l).1.length ≤ 16777216 := by
  unfold AS.read
  split
  · split
    · split
      · rename_i r hr
        exact (h.file _ _ hr).2.2.2
      · simp
    · simp
  · simp
/-- What is read is counted. -/
theorem scanW_len : ∀ (k : Nat) (rs : List RcP) (D : List UInt8) (a : Nat) (rs' : List RcP) (a' : Nat), a ≤ D.length → scanW k rs D a = some (rs', a') → rs'.length * 8 + a ≤ rs.length * 8 + a' ∧ a' ≤ D.length ∧ rs.length ≤ rs'.length
  | 0, rs, D, a, rs', a', h, e => by
    rw [scanW] at e
    obtain ⟨rfl, rfl⟩ := Prod.mk.inj (Option.some.inj e)
    omega
  | k + 1, rs, D, a, rs', a', h, e => by
    by_cases hlt : a < D.length
    · rw [scanW_step hlt] at e
      split at e
      · obtain ⟨rfl, rfl⟩ := Prod.mk.inj (Option.some.inj e)
        omega
      · split at e
        · exact nomatch e
        · rename_i h0
          split at e
          · exact nomatch e
          · split at e
            · obtain ⟨h1, h2, h3⟩ := unfR_size (D.drop a) (by simpa using h0)
              rw [List.length_drop] at h2
              have := scanW_len k _ D _ rs' a' (by omega) e
              rw [List.length_append, List.length_singleton] at this
              omega
            · exact nomatch e
    · rw [scanW_end hlt] at e
      obtain ⟨rfl, rfl⟩ := Prod.mk.inj (Option.some.inj e)
      omega
end Go.Proofs.YtccjkolcmdhliaaGreatDoor
/- Opening a log: load, walked. -/
namespace Go.Proofs.YtccjkolcmdhliaaGreatDoor
open Go.RowKit Go.Maps
set_option linter.unusedVariables false

/-- A load under way, in a round. -/
structure Ldr (S : AS) (d g N n : Nat) (ns : List Int) (w1 : World) (Y : Nat → Prop) (R : Except Int LdP) (wr : World) (j : Nat) (rs : List RcP) (L : LS) (tn : Bool) (A : Option Addr) (c : Nat) (X1 : Nat → Prop) : Prop where
  le : j ≤ n
  res : loadW S (decide (j = 0)) (rs, L, tn) (ns.drop j) = R
  lg : Lg wr X1 d g N S L
  sub : ∀ k, Y k → X1 k
  own : ∀ k, (Value.slice A rs.length c).ownBlock = some k → X1 k ∧ w1.heap.size ≤ k
  recs : Grow w1.heap.size 52 2 recG wr (.slice A rs.length c) rs
  cnt : rs.length ≤ j * 2097152
  fls : L.files.length ≤ j
  prev : 0 < j → ns[j - 1]? = some L.number
  fr : Fr (fun k => ¬ Y k) w1 wr
theorem lread_nil {S : AS} {b : Bool} {x : LdP} {R : Except Int LdP} (h : loadW S b x [] = R) : R = .ok x := by rw [← h]; cases b <;> rfl
theorem cell_lt {w : World} {a : Addr} {v : Value} (h : w.cell? a = some v) : a.block < w.heap.size := by
  refine Decidable.byContradiction fun hn => ?_
  unfold World.cell? at h
  rw [Array.getElem?_eq_none (by omega)] at h
  simp at h
theorem cell_eq {w w' : World} {g : Nat} (h : w'.heap[g]? = w.heap[g]?) (i : Nat) : w'.cell? ⟨g, i, none⟩ = w.cell? ⟨g, i, none⟩ := by
  unfold World.cell?
  rw [h]
theorem Dk.keys {w : World} {X : Nat → Prop} {d N : Nat} {S : AS} (h : Dk w X d N S) (hon : S.on = true) : (sortedKeys S.names).length ≤ 64 ∧ ∀ s ∈ sortedKeys S.names, s.length ≤ 32 := by
  obtain ⟨R, hA, hf⟩ := h.mem
  obtain ⟨nb, fb, e1, e2⟩ := hA.onn hon
  have hnm := hA.names
  rw [e1] at hnm
  constructor
  · refine Nat.le_trans (Nat.le_of_eq ?_) h.inv.names.small
    unfold sortedKeys
    rw [List.length_mergeSort]
    obtain ⟨es, he⟩ := World.ownsMap.isMap hnm
    rw [he]; simp [strKeys, Maps.size]
  · intro s hs
    obtain ⟨n, hn, _⟩ := keys_look hnm hs
    exact (nameOk_len (h.inv.names.ok s n hn)).2
theorem RowE.within {K : Nat → Prop} {w : World} {v : Value} {l : List Int} (h : RowE K w 1 intE v l) : RowE (fun k => K k ∧ k < w.heap.size) w 1 intE v l := by
  obtain ⟨A, c, e, hm, h⟩ := h
  refine ⟨A, c, e, hm, fun hl => ?_⟩
  obtain ⟨g, off, e1, hg, h⟩ := h hl
  refine ⟨g, off, e1, ⟨hg, ?_⟩, h⟩
  obtain ⟨cs, h1, h2, h3, _⟩ := h 0 hl
  have := h2 0 (by omega)
  rw [h3] at this
  exact cell_lt this
theorem loadW_cons {S : AS} {b : Bool} {x : LdP} {m : Int} {ms : List Int} : loadW S b x (m :: ms) = match loadStep S b x m with | .error e => .error e | .ok y => loadW S false y ms := by cases b <;> rfl
theorem lastSeq_at (rs : List RcP) (h : rs.length - 1 < rs.length) : lastSeq rs = rs[rs.length - 1].seq := by
  unfold lastSeq
  rw [List.getLast?_eq_getElem?, List.getElem?_eq_getElem h]
set_option maxRecDepth 100000 in
set_option maxHeartbeats 8000000 in
theorem lload_any {w : World} {X : Nat → Prop} {d g N : Nat} {S : AS} {L : LS} (h : Lg w X d g N S L) (hon : S.on = true) (hfl : L.files = []) :
    Calls Tryz.prog 52 #[gpt g] w (LoadP X d g N S w (loadW S true ([], L, false) (segsW (sortedKeys S.names)))) := by
  obtain ⟨R, hR⟩ : ∃ R, loadW S true ([], L, false) (segsW (sortedKeys S.names)) = R := ⟨_, rfl⟩
  rw [hR]
  obtain ⟨ns, hns⟩ : ∃ ns, segsW (sortedKeys S.names) = ns := ⟨_, rfl⟩
  rw [hns] at hR
  have hbd := segsW_bd (sortedKeys S.names)
  rw [hns] at hbd
  have hsm := h.dk.inv.names.small
  have hnl : ns.length ≤ 64 := by
    rw [← hns]
    exact Nat.le_trans (segsW_len _) (h.dk.keys hon).1
  have HLI := Lib.hid (lg_list h hon)
  have HSG : Hid (∀ A c wx, NamesAt wx A c (sortedKeys S.names) → Vr wx → Calls Tryz.prog 102 #[.slice A (sortedKeys S.names).length c] wx fun e w' => ∃ V, e = .returned V ∧ RowE (fun k => wx.heap.size ≤ k) w' 1 intE V ns ∧ Fr No wx w') := Lib.hid fun A c wx hx hv => by
    rw [← hns]
    exact segments_any A c _ wx hv hx (fun s hs => by have := (h.dk.keys hon).2 s hs; omega) (by have := (h.dk.keys hon).1; omega)
  obtain ⟨fv, c0, c1, c2, c3, c4, c5, c6, c7, c8⟩ := h.cells
  have HL := Lib.hid h
  have HR := Lib.hid hR
  have HBD := Lib.hid hbd
  have HFL := Lib.hid hfl
  have hm := me_list
  unfold gpt
  clear h hR hbd c1 c2 c3 c4 c5 c6 c7 c8 hns hfl hsm hon
  go_enter Tryz.func52, Tryz.ntmps52
  go_wp2_with fail
  refine HLI.out.mono ?_
  rintro e wx ⟨A0, c0', rfl, hrow, fx⟩
  have hnames : NamesAt wx A0 c0' (sortedKeys S.names) := own_base hrow (Nat.zero_le _)
  have HSX := Lib.hid (HSG.out A0 c0' wx hnames (HL.out.vr.keep fx))
  have FX := Lib.hid fx
  clear hrow fx hnames HLI HSG
  go_wp2_with fail
  refine HSX.out.mono ?_
  rintro e w1 ⟨V, rfl, hrow, f1⟩
  have fw1 : Fr No w w1 := FX.out.trans f1 fun _ _ h => h
  obtain ⟨Y, hY⟩ : ∃ Y : Nat → Prop, Y = fun k => X k ∨ (w.heap.size ≤ k ∧ k < w1.heap.size) := ⟨_, rfl⟩
  have hrowY : RowE Y w1 1 intE V ns := (RowE.within hrow).mono fun k hk => by rw [hY]; exact .inr ⟨Nat.le_trans FX.out.size hk.1, hk.2⟩
  have hYl : ∀ k, Y k → k < w1.heap.size ∧ (X k ∨ w.heap.size ≤ k) := fun k hk => by
    rw [hY] at hk
    rcases hk with hk | hk
    · exact ⟨Nat.lt_of_lt_of_le (HL.out.base k hk) fw1.size, .inl hk⟩
    · exact ⟨hk.2, .inr hk.1⟩
  have hXY : ∀ k, X k → Y k := fun k hk => by rw [hY]; exact .inl hk
  have hlg1 : Lg w1 Y d g N S L := HL.out.grow fw1 (fun k hk => hk.elim) hXY hYl
  obtain ⟨w2, hw2⟩ : ∃ w2, w1.alloc (.cells #[] 52) = w2 := ⟨_, rfl⟩
  obtain ⟨b1, hb1⟩ : ∃ b1, w1.heap.size = b1 := ⟨_, rfl⟩
  have f2 : Fr No w1 w2 := by rw [← hw2]; exact (Fr.refl _ w1).alloc _
  have hlg2 : Lg w2 (fun k => Y k ∨ k = b1) d g N S L := hlg1.grow f2 (fun k hk => hk.elim) (fun k hk => .inl hk) fun k hk => by
    rcases hk with hk | hk
    · exact ⟨Nat.lt_of_lt_of_le (hYl k hk).1 f2.size, .inl hk⟩
    · rw [hk, ← hb1, ← hw2]; simp
  have hg2 : Grow b1 52 2 recG w2 (.slice (some ⟨b1, 0, none⟩) 0 0) [] := by rw [← hw2, ← hb1]; exact Grow.nil w1.heap.size 52 2 recG w1 (Nat.le_refl _)
  obtain ⟨A, c, hVe, hmax, hat⟩ := hrowY
  subst hVe
  have HAT := Lib.hid hat
  have HYL := Lib.hid hYl
  have HXY := Lib.hid hXY
  have HLG2 := Lib.hid hlg2
  have H4 : Hid (4 ≤ w1.heap.size) := Lib.hid hlg1.vr.lt
  have HG2 := Lib.hid hg2
  have HB1 : Hid (b1 = w1.heap.size) := Lib.hid hb1.symm
  have F2 := Lib.hid f2
  have FW1 := Lib.hid fw1
  have HW2 := Lib.hid hw2
  obtain ⟨n, hn⟩ : ∃ n, ns.length = n := ⟨_, rfl⟩
  have HN := Lib.hid hn
  rw [hn] at hnl
  rw [hn]
  clear hrow f1 fw1 hY hYl hXY hlg1 hlg2 hg2 f2 hw2 hat hn HSX c0
  go_wp2_with fail
  rw [HW2.out]
  have hstart : Ldr S d g N n ns w1 Y R w2 0 [] L false (some ⟨b1, 0, none⟩) 0 (fun k => Y k ∨ k = b1) := ⟨Nat.zero_le _, HR.out, HLG2.out, fun k hk => .inl hk, fun k hk => by
    have e : b1 = k := by simpa [Value.ownBlock] using hk
    exact ⟨.inr e.symm, by rw [← e, HB1.out]; exact Nat.le_refl _⟩, by rw [← HB1.out]; exact HG2.out, Nat.zero_le _, by rw [HFL.out]; exact Nat.zero_le _, fun h0 => absurd h0 (by omega), F2.out.any⟩
  have HST := Lib.hid hstart
  clear hstart
  go_loopw [5, 6, 22] (fun v t i wr => ∃ (j : Nat) (rs1 : List RcP) (L1 : LS) (tn : Bool) (A1 : Option Addr) (c1 : Nat) (X1 : Nat → Prop), v = .slice A1 rs1.length c1 ∧ t = .bool tn ∧ i = .int .i64 j ∧ Ldr S d g N n ns w1 Y R wr j rs1 L1 tn A1 c1 X1) (fun _ _ i _ => n - (intOf i).toNat)
  case atStart => exact ⟨0, [], L, false, _, _, _, rfl, rfl, rfl, HST.out⟩
  case round =>
    obtain ⟨j, rs1, L1, tn, A1, c1, X1, rfl, rfl, rfl, hl⟩ := hrel
    have H := Lib.hid hl
    by_cases hlt : j < n
    · have hjl : j < ns.length := by rw [HN.out]; exact hlt
      obtain ⟨gn, off, rfl, hgY, hcell⟩ := HAT.out (by omega)
      obtain ⟨cs, hc1, hcs, rfl, hc3⟩ := hcell j hjl
      have x0 := (cell_eq (hl.fr.block gn (HYL.out gn hgY).1 fun hn => hn hgY) (off + j * 1 + 0)).trans (hcs 0 (by omega))
      have hres := hl.res
      rw [List.drop_eq_getElem_cons hjl, loadW_cons] at hres
      have hmb := HBD.out _ (List.getElem_mem hjl)
      have HMJ := Lib.hid (List.getElem?_eq_getElem hjl)
      obtain ⟨m, hm0⟩ : ∃ m, ns[j] = m := ⟨_, rfl⟩
      rw [hm0] at HMJ
      rw [hm0] at x0 hres hmb
      simp only [Nat.mul_one, Nat.add_zero, List.getElem?_cons_zero] at x0
      obtain ⟨fv1, d0, d1, d2, d3, d4, d5, d6, d7, d8⟩ := hl.lg.cells
      have hnum := hl.lg.ok.number
      have hbig := hl.lg.big
      have HRES := Lib.hid hres
      have hwn : IntKind.i64.wrap (L1.number + 1) = L1.number + 1 := IntWalk.i64_in _ (by omega)
      have HPV : Hid (0 < j → ∃ jm : Nat, IntKind.i64.wrap ((j : Int) - 1) = (jm : Int) ∧ (0 : Int) ≤ (jm : Int) ∧ (jm : Int) < (n : Int) ∧ wr.cell? ⟨gn, off + jm, none⟩ = some (.int .i64 L1.number)) := Lib.hid fun hj0 => by
        have hp := hl.prev hj0
        obtain ⟨hjl', hpe⟩ := List.getElem?_eq_some_iff.1 hp
        obtain ⟨cs', _, hcs', e', _⟩ := hcell (j - 1) hjl'
        refine ⟨j - 1, by rw [show (j : Int) - 1 = ((j - 1 : Nat) : Int) by omega]; exact IntWalk.i64_in _ (by omega), by omega, by omega, ?_⟩
        have hz := (cell_eq (hl.fr.block gn (HYL.out gn hgY).1 fun hn => hn hgY) (off + (j - 1) * 1 + 0)).trans (hcs' 0 (by omega))
        simp only [Nat.mul_one, Nat.add_zero] at hz
        rw [hz, e', hpe]
        rfl
      clear d1 d2 d3 d4 d5 d6 d7 d8 hl hcell hcs hgY hc1 hc3 hjl hm0 hres
      by_cases hf1 : decide (j = 0) = false ∧ m ≠ L1.number + 1
      · have t0 : ((j : Int) == 0) = false := by have := hf1.1; simp at this; rw [beq_eq_false_iff_ne]; omega
        have t1 : (m == L1.number + 1) = false := by rw [beq_eq_false_iff_ne]; exact hf1.2
        have HE : Hid (R = .error 24) := Lib.hid (by have := HRES.out; unfold loadStep at this; rw [if_pos hf1] at this; exact this.symm)
        obtain ⟨jm, p1, p2, p3, p4⟩ := HPV.out (by have := hf1.1; simp at this; omega)
        clear hf1
        go_wp2_with fail
        refine (check_no _).mono ?_
        rintro e w' ⟨rfl, rfl⟩
        go_wp2_with fail
        refine ⟨rfl, fun x hx => ?_, fun q hq => ?_, H.out.lg.dk.less fun k hk => H.out.sub k (HXY.out k hk), H.out.lg.vr, FW1.out.any.trans H.out.fr fun k _ hk hx => hk (HXY.out k hx)⟩
        · rw [HE.out] at hx; exact nomatch hx
        · rw [HE.out] at hq; cases hq; rfl
      · have hres1 := HRES.out
        unfold loadStep at hres1
        rw [if_neg hf1] at hres1
        have ht : ((j : Int) == 0) = true ∨ ((j : Int) == 0) = false ∧ 0 < j ∧ (m == L1.number + 1) = true := by
          by_cases hj0 : j = 0
          · exact .inl (by rw [hj0]; rfl)
          · refine .inr ⟨by rw [beq_eq_false_iff_ne]; omega, by omega, ?_⟩
            rw [beq_iff_eq]
            refine Decidable.byContradiction fun hn => hf1 ⟨by simpa using hj0, hn⟩
        have HR0 := Lib.hid hres1
        clear hf1 hres1
        go_upto_region 7 with fail
        go_cut [28] (fun _ wx => wr = wx)
        case first =>
          clear HR0 HRES H
          rcases ht with t0 | ⟨t0, hj0, t1⟩
          · go_wp2_with (refine (check_ok _).mono ?_; rintro e w' ⟨rfl, rfl⟩)
            go_meet
            rfl
          · obtain ⟨jm, p1, p2, p3, p4⟩ := HPV.out hj0
            go_wp2_with (refine (check_ok _).mono ?_; rintro e w' ⟨rfl, rfl⟩)
            go_meet
            rfl
        case rest =>
        subst hcut
        have hres1 := HR0.out
        by_cases htn : tn = true
        · subst htn
          rw [if_pos rfl] at hres1
          have HE : Hid (R = .error 24) := Lib.hid hres1.symm
          clear hres1
          go_wp2_with fail
          refine (check_no _).mono ?_
          rintro e w' ⟨rfl, rfl⟩
          go_wp2_with fail
          refine ⟨rfl, fun x hx => ?_, fun q hq => ?_, H.out.lg.dk.less fun k hk => H.out.sub k (HXY.out k hk), H.out.lg.vr, FW1.out.any.trans H.out.fr fun k _ hk hx => hk (HXY.out k hx)⟩
          · rw [HE.out] at hx; exact nomatch hx
          · rw [HE.out] at hq; cases hq; rfl
        · obtain rfl : tn = false := by simpa using htn
          rw [if_neg htn] at hres1
          have HR1 := Lib.hid hres1
          have HD := Lib.hid (H.out.lg.keep ((Fr.refl No wr).drew))
          have HNm := Lib.hid (name_any m wr.drew (H.out.lg.keep ((Fr.refl No wr).drew)).vr (by omega) (by omega))
          have hm := me_read
          clear hres1 htn
          go_upto_region 9 with (refine (check_ok _).mono ?_; rintro e w' ⟨rfl, rfl⟩)
          go_cut [9, 10] (fun dv ev wx => dv = sv (S.read (nameW m)).1 ∧ ev = .int .i64 (S.read (nameW m)).2 ∧ Fr No wr wx)
          case first =>
            go_region_held3 (fun w' => w'.cell? ⟨g, 0, none⟩ = some (.iface 25 (.pointer (some ⟨d, 0, none⟩))))
              (first | exact HL2.out.one | exact HL1.out.one | exact HD.out.one | go_keep)
              (first
                | (go_at_call 28; refine HNm.out.mono ?_; rintro e w1' ⟨rfl, f1⟩; have HL1 := Lib.hid (HD.out.keep f1); have HF1 := Lib.hid f1; clear f1)
                | (go_at_call 47; refine (lg_read HL1.out (nameW m) (nameW_max _)).mono ?_; rintro e w2' ⟨rfl, f2⟩; have HL2 := Lib.hid (HL1.out.keep f2); have HF2 := Lib.hid f2; clear f2))
            all_goals (go_simp; go_wp2_with fail)
            all_goals go_meet
            all_goals exact ⟨rfl, rfl, (((Fr.refl No wr).drew.trans HF1.out fun _ _ hk => hk.elim).trans HF2.out fun _ _ h => h)⟩
          case rest =>
          obtain ⟨rfl, rfl, hF⟩ := hcut
          have hlgc := H.out.lg.keep hF
          have hrc := H.out.recs.keep recG_elem hF (fun k hk => hk.elim)
          have hfc : Fr (fun k => ¬ Y k) w1 wc := H.out.fr.trans hF fun _ _ hk => hk.elim
          have hdl := read_len hlgc.dk.inv (nameW m)
          have HLC := Lib.hid hlgc
          have HRC := Lib.hid hrc
          have HFC := Lib.hid hfc
          obtain ⟨D, hD⟩ : ∃ D, (S.read (nameW m)).1 = D := ⟨_, rfl⟩
          obtain ⟨E, hE⟩ : ∃ E, (S.read (nameW m)).2 = E := ⟨_, rfl⟩
          rw [hD] at HR1 hdl
          rw [hE] at HR1
          rw [hD, hE]
          clear hlgc hrc hfc hF HD HNm hm hD hE x0 d0
          by_cases he : E = 0
          · subst he
            have hr2 := HR1.out
            rw [if_neg (by simp)] at hr2
            obtain ⟨wd, hwd⟩ : ∃ wd, wc.alloc (.cells #[.int .i64 m, .int .i64 0] 102) = wd := ⟨_, rfl⟩
            obtain ⟨gs, hgs⟩ : ∃ gs, wc.heap.size = gs := ⟨_, rfl⟩
            have fd : Fr No wc wd := by rw [← hwd]; exact (Fr.refl _ wc).alloc _
            have bd : Blk wd gs 102 #[.int .i64 m, .int .i64 0] := by rw [← hwd, ← hgs]; exact Blk.new wc 102 _
            have hlgd : Lg wd (fun k => X1 k ∨ k = gs) d g N S L1 := HLC.out.grow fd (fun k hk => hk.elim) (fun k hk => .inl hk) fun k hk => by
              rcases hk with hk | hk
              · exact ⟨Nat.lt_of_lt_of_le (HLC.out.base k hk) fd.size, .inl hk⟩
              · rw [hk]; exact ⟨bd.lt, .inr (by omega)⟩
            have hrd := HRC.out.keep recG_elem fd (fun k hk => hk.elim)
            have hfd : Fr (fun k => ¬ Y k) w1 wd := HFC.out.trans fd fun _ _ hk => hk.elim
            have hsc := scan_any D hrd hfd.size (by have := H.out.cnt; have := H.out.le; omega) (by omega)
            have hvg : ∀ k, (Value.slice A1 rs1.length c1).ownBlock = some k → X1 k ∧ w1.heap.size ≤ k ∧ k < gs := fun k hk => ⟨(H.out.own k hk).1, (H.out.own k hk).2, by rw [← hgs]; exact (HRC.out.lt k hk).2⟩
            have hgs4 : 4 ≤ gs := by have := HFC.out.size; have := H4.out; omega
            have hF3 : ∀ k, (Value.slice A1 rs1.length c1).ownBlock = some k → (X1 k ∨ k = gs) ∧ 4 ≤ k := fun k hk => ⟨.inl (hvg k hk).1, by have := (hvg k hk).2.1; have := H4.out; omega⟩
            have HGS4 := Lib.hid hgs4
            have HGSW : Hid (w1.heap.size ≤ gs) := Lib.hid (by rw [← hgs]; exact HFC.out.size)
            have HSC := Lib.hid hsc
            have HWD := Lib.hid hwd
            have HGS := Lib.hid hgs
            have HBD' := Lib.hid bd
            have HLGD := Lib.hid hlgd
            have HFD := Lib.hid hfd
            have HVG := Lib.hid hvg
            have HF3 := Lib.hid hF3
            have HR2 := Lib.hid hr2
            clear hr2 hwd hgs fd bd hlgd hrd hfd hsc hvg hF3
            go_upto_region 13 with (refine (must_ok _).mono ?_; rintro e w' ⟨rfl, rfl⟩)
            rw [HGS.out] at *
            rw [HWD.out]
            cases hsw : scanW (D.length + 1) rs1 D 0 with
            | none =>
              have HE : Hid (R = .error 24) := Lib.hid (by have := HR2.out; rw [hsw] at this; exact this.symm)
              rw [hsw] at HSC
              clear hsw
              go_wp2_with fail
              refine HSC.out.mono ?_
              rintro e w3 ⟨hs1, hs2, hs3⟩
              obtain rfl := hs2 rfl
              have hlg3 : Lg w3 (fun k => X1 k ∨ k = gs) d g N S L1 := HLGD.out.grow hs3 HF3.out (fun k hk => hk) fun k hk => ⟨Nat.lt_of_lt_of_le (HLGD.out.base k hk) hs3.size, .inl hk⟩
              have HLG3 := Lib.hid hlg3
              have HS3 := Lib.hid hs3
              clear hs1 hs2 hs3 hlg3
              go_wp2_with fail
              refine ⟨rfl, fun x hx => ?_, fun q hq => ?_, HLG3.out.dk.less fun k hk => .inl (H.out.sub k (HXY.out k hk)), HLG3.out.vr, (FW1.out.any.trans HFD.out fun k _ hk hx => hk (HXY.out k hx)).trans HS3.out fun k hk ho hx => by have := (HVG.out k ho).2.1; have := FW1.out.size; omega⟩
              · rw [HE.out] at hx; exact nomatch hx
              · rw [HE.out] at hq; cases hq; rfl
            | some p =>
              obtain ⟨rs', at'⟩ := p
              have hlen := scanW_len _ _ _ _ _ _ (Nat.zero_le _) hsw
              have HR3 : Hid (loadW S false (rs', { L1 with size := at', files := L1.files ++ [⟨m, if rs1.length < rs'.length then lastSeq rs' else 0⟩] }, decide (at' < D.length)) (ns.drop (j + 1)) = R) := Lib.hid (by have := HR2.out; rw [hsw] at this; exact this)
              rw [hsw] at HSC
              clear hsw
              go_wp2_with fail
              refine HSC.out.mono ?_
              rintro e w3 ⟨hs1, hs2, hs3⟩
              obtain ⟨A3, c3, rfl, hg3, ho3⟩ := hs1 rs' at' rfl
              have hlg3 : Lg w3 (fun k => (X1 k ∨ k = gs) ∨ (Value.slice A3 rs'.length c3).ownBlock = some k) d g N S L1 := HLGD.out.grow hs3 HF3.out (fun k hk => .inl hk) fun k hk => by
                rcases hk with hk | hk
                · exact ⟨Nat.lt_of_lt_of_le (HLGD.out.base k hk) hs3.size, .inl hk⟩
                · refine ⟨(hg3.lt k hk).2, ?_⟩
                  rcases ho3 k hk with h | h
                  · exact .inl (.inl (HVG.out k h).1)
                  · exact .inr h
              have b3 : Blk w3 gs 102 #[.int .i64 m, .int .i64 0] := HBD'.out.of (hs3.block gs HBD'.out.lt fun e => by have := (HVG.out gs e).2.2; omega)
              have hgo : ∀ k, (Value.slice A3 rs'.length c3).ownBlock = some k → w1.heap.size ≤ k := fun k hk => by
                rcases ho3 k hk with h | h
                · exact (HVG.out k h).2.1
                · exact Nat.le_trans HFD.out.size h
              have hf3 : Fr (fun k => ¬ Y k) w1 w3 := HFD.out.trans hs3 fun k hk ho => by have := (HVG.out k ho).2.1; omega
              have hok3 := hlg3.ok
              have hS4 := hlg3.set 5 (.int .i64 (at' : Nat)) { L1 with size := at' } (fun _ => rfl) rfl ⟨hok3.last, hok3.firm, hok3.number, by simp only; omega, hok3.files⟩
              obtain ⟨w4, hw4⟩ : ∃ w4, w3.setCell ⟨g, 5, none⟩ (.int .i64 (at' : Nat)) = w4 := ⟨_, rfl⟩
              rw [hw4] at hS4
              have hg4 : Grow w1.heap.size 52 2 recG w4 (.slice A3 rs'.length c3) rs' := hg3.keepG hS4.2 fun k hk hn => hn (.inr hk)
              have b4 : Blk w4 gs 102 #[.int .i64 m, .int .i64 0] := b3.of (hS4.2.block gs b3.lt fun hn => hn (.inl (.inr rfl)))
              have hf4 : Fr (fun k => ¬ Y k) w1 w4 := hf3.trans hS4.2 fun k _ hk hy => hk (.inl (.inl (H.out.sub k hy)))
              have hgl : ∀ r, hg4.lt = r → True := fun _ _ => trivial
              have hngs : (Value.slice A3 rs'.length c3).ownBlock ≠ some gs := fun e => by
                obtain ⟨K, xs, ho, _⟩ := hg4
                exact own_blk_ne ho e b4 (by decide) rfl
              have y6 := hlg3.frozen 5
              obtain ⟨fv3, z0, z1, z2, z3, z4, z5, z6, z7, z8⟩ := hlg3.cells
              have HLG4 := Lib.hid hS4.1
              have HG4 := Lib.hid hg4
              have HB4 := Lib.hid b4
              have HF4 := Lib.hid hf4
              have HGO := Lib.hid hgo
              have HLEN := Lib.hid hlen
              have HW4 := Lib.hid hw4
              clear hS4 hg4 b4 hf4 hgo hlen hw4 hs1 hs2 hs3 hg3 hlg3 b3 hf3 hok3 ho3 HSC HLGD HBD' HFD HVG HF3 hgl z0 z1 z2 z3 z4 z5 z7 z8 HWD
              go_upto_region 14 with fail
              rw [HW4.out]
              clear z6 y6 HW4
              obtain ⟨X2, hX2⟩ : ∃ X2 : Nat → Prop, (fun k => (X1 k ∨ k = gs) ∨ (Value.slice A3 rs'.length c3).ownBlock = some k) = X2 := ⟨_, rfl⟩
              have HX2 : Hid (∀ k, X2 k ↔ ((X1 k ∨ k = gs) ∨ (Value.slice A3 rs'.length c3).ownBlock = some k)) := Lib.hid fun k => by rw [← hX2]
              rw [hX2] at HLG4
              clear hX2
              obtain ⟨lst, hlst⟩ : ∃ lst, (if rs1.length < rs'.length then lastSeq rs' else 0) = lst := ⟨_, rfl⟩
              rw [hlst] at HR3
              have hcl := HLEN.out
              by_cases hmr : rs1.length < rs'.length
              · rw [if_pos hmr] at hlst
                have t2 : decide (rs1.length < rs'.length) = true := by simp; omega
                have hcnt := H.out.cnt
                have hjle := H.out.le
                obtain ⟨g3, rfl, -, hg3l, hcell⟩ := HG4.out.recAt (rs'.length - 1) (by omega)
                have x7 := (hcell w4 rfl).1
                rw [← lastSeq_at rs' (by omega), hlst] at x7
                obtain ⟨jj, hjj⟩ : ∃ jj, rs'.length - 1 = jj := ⟨_, rfl⟩
                rw [hjj] at x7
                have hwk : IntKind.i64.wrap ((rs'.length : Int) - 1) = (jj : Int) := by rw [show (rs'.length : Int) - 1 = (jj : Int) by omega]; exact IntWalk.i64_in _ (by omega)
                have k1 : (0 : Int) ≤ (jj : Int) := by omega
                have k2 : (jj : Int) < (rs'.length : Int) := by omega
                have k3 : (rs'.length : Int) ≤ 1000000000 := by omega
                have s1 : w4.cell? ⟨gs, 1, none⟩ = some (.int .i64 0) := HB4.out.cell 1
                have sf := HB4.out.frozen 1
                obtain ⟨w5, hw5⟩ : ∃ w5, w4.setCell ⟨gs, 1, none⟩ (.int .i64 lst) = w5 := ⟨_, rfl⟩
                have f5 : Fr (fun k => k = gs) w4 w5 := by rw [← hw5]; exact (Fr.refl (fun k => k = gs) w4).setCell (p := ⟨gs, 1, none⟩) (fun _ => rfl) _
                have hx2g : X2 gs := (HX2.out gs).2 (.inl (.inr rfl))
                have HLG5 := Lib.hid (HLG4.out.grow f5 (fun k hk => by rw [hk]; exact ⟨hx2g, by have := HGS4.out; omega⟩) (fun k hk => hk) fun k hk => ⟨Nat.lt_of_lt_of_le (HLG4.out.base k hk) f5.size, .inl hk⟩)
                have HB5 : Hid (Blk w5 gs 102 #[.int .i64 m, .int .i64 lst]) := Lib.hid (by rw [← hw5]; exact HB4.out.set_ 1 _)
                have HG5 := Lib.hid (HG4.out.keepG f5 fun k hk e => hngs (by rw [hk, e]))
                have HF5 : Hid (Fr (fun k => ¬ Y k) w1 w5) := Lib.hid (HF4.out.trans f5 fun k hk e => by have := HGSW.out; omega)
                have HW5 := Lib.hid hw5
                clear hw5 f5 hx2g hg3l hcell hjj hlst hmr HLG4 HB4 HG4 HF4
                go_upto_region 16 with fail
                rw [HW5.out]
                clear x7 s1 sf hwk k1 k2 k3 t2 HW5
                have dlt : decide ((at' : Int) < (D.length : Int)) = decide (at' < D.length) := by simp
                obtain ⟨fv5, z0, z1, z2, z3, z4, z5, z6, z7, z8⟩ := HLG5.out.cells
                have q6 : w5.cell? ⟨g, 5, none⟩ = some (.int .i64 (at' : Nat)) := z6
                have HLG6 := HLG5
                have HG6 := HG5
                have HF6 := HF5
                have e0 : w5.cell? ⟨gs, 0, none⟩ = some (.int .i64 m) := HB5.out.cell 0
                have e1 : w5.cell? ⟨gs, 1, none⟩ = some (.int .i64 lst) := HB5.out.cell 1
                have HML : Hid (0 ≤ m ∧ m ≤ 100000000 + (N : Int)) := Lib.hid (by omega)
                clear z0 z1 z2 z3 z4 z5 z6 z7 z8
                go_upto_region 17 with fail
                clear q6
                obtain ⟨i0, hi0, hz0, hz1, hz2⟩ := info_parts info102
                obtain ⟨Af, cf, q4, hrow, hgl, hadd⟩ := HLG6.out.addSeg (by have := H.out.fls; show L1.files.length < _; omega)
                have HROW := Lib.hid hrow
                have HADD := Lib.hid (hadd ⟨m, lst⟩)
                have hnl : L1.files.length < 64 := by have := H.out.fls; omega
                obtain ⟨nn, hnn⟩ : ∃ nn, L1.files.length = nn := ⟨_, rfl⟩
                have HNN := Lib.hid hnn
                change w5.cell? ⟨g, 4, none⟩ = some (.slice Af L1.files.length cf) at q4
                change Hid (w5.ownsRow 0 102 2 (.slice Af L1.files.length cf) L1.files.length (L1.files.flatMap SegP.cells)) at HROW
                simp only at HADD
                rw [hnn] at q4 HROW HADD hnl
                clear hrow hadd hnn HLG5 HG5 HB5 HF5
                go_region_law (first | (refine step_append_lies _ (by rfl) _ _ _ (by rfl) 0 102 i0 _ 2 16 Tryz.underlying69 hi0 hz0 hz1 hz2 rfl (by omega) (.slice Af nn cf) _ _ (by rfl) ((HROW.out.alloc _).drew) ⟨w5.heap.size, 0, none⟩ 1 1 [.int .i64 m, .int .i64 lst] (by rfl) (by rfl) (World.news_of_block (cs := #[.int .i64 m, .int .i64 lst]) (t := 102) (fr := (0, 0)) (heap_alloc_new w5 _)) (by simp [Value.oneCell']) (by omega) (by unfold maxLen; omega) (by omega) (by simp) (w5.heap.size + 1) (by simp) ?_; intro gg cap w7 hown3 hgrow hat hlt7; have hall := HADD.out _ _ _ _ HML.out (((Fr.refl No w5).alloc _).drew) hgrow hown3 (hat.imp id (fun e => by omega)); have q7 := hall.1; have qf := hall.2.1; have HE := Lib.hid hall.2.2; clear hgrow hown3 hat hall))
                all_goals
                  obtain ⟨w8, hw8⟩ : ∃ w8, w7.setCell ⟨g, 4, none⟩ (.slice (some ⟨gg, 0, none⟩) (nn + 1) cap) = w8 := ⟨_, rfl⟩
                  rw [hw8] at HE
                  have HW8 := Lib.hid hw8
                  clear hw8 q7 qf q4 e0 e1
                  go_wp2_with fail
                  rw [HW8.out]
                  refine ⟨⟨j + 1, rs', { L1 with size := at', files := L1.files ++ [⟨m, lst⟩] }, decide (at' < D.length), _, c3, X2, rfl, rfl, by go_num, ⟨by omega, ?_, HE.out.1, fun k hk => (HX2.out k).2 (.inl (.inl (H.out.sub k hk))), fun k hk => ⟨(HX2.out k).2 (.inr hk), HGO.out k hk⟩, HG6.out.keepG HE.out.2 (fun k hk hn => hn ((HX2.out k).2 (.inr hk))), ?_, ?_, fun _ => by simp only [Nat.add_sub_cancel]; rw [HMJ.out]; unfold LS.number; rw [numOf_snoc], HF6.out.trans HE.out.2 fun k _ hk hy => hk ((HX2.out k).2 (.inl (.inl (H.out.sub k hy))))⟩⟩, ?_⟩
                  · rw [show decide (j + 1 = 0) = false by simp]; exact HR3.out
                  · have := HLEN.out; have := H.out.cnt; omega
                  · have := H.out.fls; simp only [List.length_append, List.length_singleton]; omega
                  · simp [intOf]; omega
              · rw [if_neg hmr] at hlst
                have t2 : decide (rs1.length < rs'.length) = false := by simp; omega
                subst hlst
                have HLG5 := HLG4
                have HB5 := HB4
                have HG5 := HG4
                have HF5 := HF4
                clear hmr HLG4 HB4 HG4 HF4
                obtain ⟨lst, hlst⟩ : ∃ lst : Int, (0 : Int) = lst := ⟨_, rfl⟩
                rw [hlst] at HB5 HR3
                clear hlst
                go_upto_region 16 with fail
                clear t2
                have dlt : decide ((at' : Int) < (D.length : Int)) = decide (at' < D.length) := by simp
                obtain ⟨fv5, z0, z1, z2, z3, z4, z5, z6, z7, z8⟩ := HLG5.out.cells
                have q6 : w4.cell? ⟨g, 5, none⟩ = some (.int .i64 (at' : Nat)) := z6
                have HLG6 := HLG5
                have HG6 := HG5
                have HF6 := HF5
                have e0 : w4.cell? ⟨gs, 0, none⟩ = some (.int .i64 m) := HB5.out.cell 0
                have e1 : w4.cell? ⟨gs, 1, none⟩ = some (.int .i64 lst) := HB5.out.cell 1
                have HML : Hid (0 ≤ m ∧ m ≤ 100000000 + (N : Int)) := Lib.hid (by omega)
                clear z0 z1 z2 z3 z4 z5 z6 z7 z8
                go_upto_region 17 with fail
                clear q6
                obtain ⟨i0, hi0, hz0, hz1, hz2⟩ := info_parts info102
                obtain ⟨Af, cf, q4, hrow, hgl, hadd⟩ := HLG6.out.addSeg (by have := H.out.fls; show L1.files.length < _; omega)
                have HROW := Lib.hid hrow
                have HADD := Lib.hid (hadd ⟨m, lst⟩)
                have hnl : L1.files.length < 64 := by have := H.out.fls; omega
                obtain ⟨nn, hnn⟩ : ∃ nn, L1.files.length = nn := ⟨_, rfl⟩
                have HNN := Lib.hid hnn
                change w4.cell? ⟨g, 4, none⟩ = some (.slice Af L1.files.length cf) at q4
                change Hid (w4.ownsRow 0 102 2 (.slice Af L1.files.length cf) L1.files.length (L1.files.flatMap SegP.cells)) at HROW
                simp only at HADD
                rw [hnn] at q4 HROW HADD hnl
                clear hrow hadd hnn HLG5 HG5 HB5 HF5
                go_region_law (first | (refine step_append_lies _ (by rfl) _ _ _ (by rfl) 0 102 i0 _ 2 16 Tryz.underlying69 hi0 hz0 hz1 hz2 rfl (by omega) (.slice Af nn cf) _ _ (by rfl) ((HROW.out.alloc _).drew) ⟨w4.heap.size, 0, none⟩ 1 1 [.int .i64 m, .int .i64 lst] (by rfl) (by rfl) (World.news_of_block (cs := #[.int .i64 m, .int .i64 lst]) (t := 102) (fr := (0, 0)) (heap_alloc_new w4 _)) (by simp [Value.oneCell']) (by omega) (by unfold maxLen; omega) (by omega) (by simp) (w4.heap.size + 1) (by simp) ?_; intro gg cap w7 hown3 hgrow hat hlt7; have hall := HADD.out _ _ _ _ HML.out (((Fr.refl No w4).alloc _).drew) hgrow hown3 (hat.imp id (fun e => by omega)); have q7 := hall.1; have qf := hall.2.1; have HE := Lib.hid hall.2.2; clear hgrow hown3 hat hall))
                all_goals
                  obtain ⟨w8, hw8⟩ : ∃ w8, w7.setCell ⟨g, 4, none⟩ (.slice (some ⟨gg, 0, none⟩) (nn + 1) cap) = w8 := ⟨_, rfl⟩
                  rw [hw8] at HE
                  have HW8 := Lib.hid hw8
                  clear hw8 q7 qf q4 e0 e1
                  go_wp2_with fail
                  rw [HW8.out]
                  refine ⟨⟨j + 1, rs', { L1 with size := at', files := L1.files ++ [⟨m, lst⟩] }, decide (at' < D.length), _, c3, X2, rfl, rfl, by go_num, ⟨by omega, ?_, HE.out.1, fun k hk => (HX2.out k).2 (.inl (.inl (H.out.sub k hk))), fun k hk => ⟨(HX2.out k).2 (.inr hk), HGO.out k hk⟩, HG6.out.keepG HE.out.2 (fun k hk hn => hn ((HX2.out k).2 (.inr hk))), ?_, ?_, fun _ => by simp only [Nat.add_sub_cancel]; rw [HMJ.out]; unfold LS.number; rw [numOf_snoc], HF6.out.trans HE.out.2 fun k _ hk hy => hk ((HX2.out k).2 (.inl (.inl (H.out.sub k hy))))⟩⟩, ?_⟩
                  · rw [show decide (j + 1 = 0) = false by simp]; exact HR3.out
                  · have := HLEN.out; have := H.out.cnt; omega
                  · have := H.out.fls; simp only [List.length_append, List.length_singleton]; omega
                  · simp [intOf]; omega
          · have HE : Hid (R = .error E) := Lib.hid (by have := HR1.out; rw [if_pos he] at this; exact this.symm)
            have HMN := Lib.hid (must_no E he wc)
            go_wp2_with fail
            refine HMN.out.mono ?_
            rintro e w' ⟨rfl, rfl⟩
            go_wp2_with fail
            refine ⟨rfl, fun x hx => ?_, fun q hq => ?_, HLC.out.dk.less fun k hk => H.out.sub k (HXY.out k hk), HLC.out.vr, FW1.out.any.trans HFC.out fun k _ hk hx => hk (HXY.out k hx)⟩
            · rw [HE.out] at hx; exact nomatch hx
            · rw [HE.out] at hq; cases hq; rfl
    · have hjn : j = n := by have := hl.le; omega
      subst hjn
      have hres := hl.res
      rw [List.drop_of_length_le (by rw [HN.out]; exact Nat.le_refl _)] at hres
      have HE := Lib.hid (lread_nil hres)
      clear hl hres
      go_wp2
      refine bodyPost_ret (v := .tuple #[.slice A1 rs1.length c1, .bool tn]) (by simp [results, Tryz.results52, go_sem]) rfl ?_
      refine ⟨fun x hx => ?_, fun m hm => ?_, ?_, H.out.lg.vr, ?_⟩
      · rw [HE.out] at hx
        cases hx
        exact ⟨A1, c1, X1, w1.heap.size, rfl, fun k hk => H.out.sub k (HXY.out k hk), H.out.lg, H.out.recs, FW1.out.size, fun k hk => ⟨(H.out.own k hk).1, Nat.le_trans FW1.out.size (H.out.own k hk).2⟩⟩
      · rw [HE.out] at hm; exact nomatch hm
      · exact H.out.lg.dk.less fun k hk => H.out.sub k (HXY.out k hk)
      · exact FW1.out.any.trans H.out.fr fun k _ hk hx => hk (HXY.out k hx)
end Go.Proofs.YtccjkolcmdhliaaGreatDoor
/- Opening a log: mend. -/
namespace Go.Proofs.YtccjkolcmdhliaaGreatDoor
open Go.RowKit Go.Maps
set_option linter.unusedVariables false

theorem Inv.cut {N : Nat} {S : AS} (h : Inv N S) (l : List UInt8) (size : Int) : Inv N (S.cut l size).1 := by
  unfold AS.cut
  by_cases hE : checkOf S.on [l] = 0
  · rw [if_pos hE]
    cases hn : look S.names l with
    | none => exact h
    | some n =>
      cases hr : S.file n with
      | none => simp only [hr]; exact h
      | some r =>
        simp only [hr]
        split
        · exact h
        · split
          · have hr1 : S.step.file n = some r := by rw [(step_same S).2.2.2.1]; exact hr
            have hf := h.file n r hr
            exact h.step.turn hr1 (r' := { bytes := r.bytes.take size.toNat, firm := min r.firm size.toNat }) (by simp only [List.length_take]; omega) (by simp only [List.length_take]; omega)
          · exact h.step
  · rw [if_neg hE]; exact h
theorem x_cut {w : World} {X : Nat → Prop} {d N : Nat} {S : AS} (h : Dk w X d N S) (l : List UInt8) (size : Int) (hl : l.length ≤ maxLen) :
    Calls Tryz.prog 252 #[.pointer (some ⟨d, 0, none⟩), .string ⟨l.toArray⟩, .int .i64 size] w fun e w' => e = .returned (.int .i64 (S.cut l size).2) ∧ Dk w' X d N (S.cut l size).1 ∧ Fr (fun k => ¬ X k) w w' := by
  obtain ⟨R, hA, hf⟩ := h.mem
  refine (cut_any d R S l size w hA h.wf hl).mono ?_
  rintro e w' ⟨he, hP⟩
  exact ⟨he, Dk.of_post h.base hf hP (h.inv.cut l size) h.big⟩
theorem lg_cut {w : World} {X : Nat → Prop} {d g N : Nat} {S : AS} {L : LS} (h : Lg w X d g N S L) (l : List UInt8) (size : Int) (hl : l.length ≤ maxLen) :
    Calls Tryz.prog 252 #[dkp d, sv l, .int .i64 size] w fun e w' => e = .returned (.int .i64 (S.cut l size).2) ∧ Lg w' X d g N (S.cut l size).1 L ∧ Fr (fun k => ¬ X k) w w' := by
  obtain ⟨fv, hL, hd, h3, h4⟩ := h.log
  refine (x_cut hd l size hl).mono ?_
  rintro e w' ⟨he, hd', hf⟩
  exact ⟨he, h.disk (Nat.le_refl _) h.big hL h3 h4 hd' hf⟩

def mend2 (S : AS) (nm : List UInt8) : AS × Int := if (S.sync nm).2 ≠ 0 then S.sync nm else (S.sync nm).1.settle
def mendW (S : AS) (L : LS) (torn : Bool) : AS × Int :=
  if L.files.length = 0 then (S, 0)
  else if torn = true then
    if (S.cut (nameW L.number) L.size).2 ≠ 0 then S.cut (nameW L.number) L.size else mend2 (S.cut (nameW L.number) L.size).1 (nameW L.number)
  else mend2 S (nameW L.number)
theorem mend2_ok {S : AS} {nm : List UInt8} (h : (mend2 S nm).2 = 0) : (S.sync nm).2 = 0 ∧ (S.sync nm).1.settle.2 = 0 ∧ (mend2 S nm).1 = (S.sync nm).1.settle.1 := by
  by_cases h1 : (S.sync nm).2 = 0
  · unfold mend2 at h ⊢
    rw [if_neg (by simpa using h1)] at h ⊢
    exact ⟨h1, h, rfl⟩
  · unfold mend2 at h
    rw [if_pos h1] at h
    exact absurd h h1
def mendE (n : Int) : Ending := if n = 0 then .returned (.tuple #[]) else .panicked [{ v := given n, recovered := false }]
theorem mendE_zero : mendE 0 = .returned (.tuple #[]) := if_pos rfl
theorem mendE_no {n : Int} (h : n ≠ 0) : mendE n = .panicked [{ v := given n, recovered := false }] := if_neg h
set_option maxRecDepth 100000 in
set_option maxHeartbeats 4000000 in
theorem mend_any {w : World} {X : Nat → Prop} {d g N : Nat} {S : AS} {L : LS} (torn : Bool) (h : Lg w X d g N S L) : Calls Tryz.prog 55 #[gpt g, .bool torn] w fun e w' => e = mendE (mendW S L torn).2 ∧ Lg w' X d g N (mendW S L torn).1 L ∧ Fr (fun k => ¬ X k) w w' := by
  obtain ⟨A, c, c4⟩ := h.fileSlice
  have HL := Lib.hid h
  have hn := h.ok.num64 h.big
  have hfl := h.ok.files
  have hbig := h.big
  have m1 := me_cut
  have m2 := me_sync
  have m3 := me_settle
  have HNUM := Lib.hid (lnum_any h)
  unfold gpt at HNUM ⊢
  clear h
  obtain ⟨q, hq⟩ : ∃ q, L.files.length = q := ⟨_, rfl⟩
  rw [hq] at c4 hfl
  by_cases h0 : q = 0
  · have HE : Hid (mendW S L torn = (S, 0)) := Lib.hid (by unfold mendW; rw [hq, if_pos h0])
    subst h0
    clear hq
    go_enter Tryz.func55, Tryz.ntmps55
    go_wp2_with fail
    refine bodyPost_ret (v := .tuple #[]) (by simp [results, Tryz.results55, go_sem]) rfl ?_
    exact ⟨by rw [HE.out]; exact mendE_zero.symm, by rw [HE.out]; exact HL.out, Fr.refl _ _⟩
  · have t0 : ((q : Int) == 0) = false := by rw [beq_eq_false_iff_ne]; omega
    obtain ⟨nm, hnme⟩ : ∃ nm, nameW L.number = nm := ⟨_, rfl⟩
    have hnm : nm.length ≤ maxLen := by rw [← hnme]; exact nameW_max _
    have HNA : Hid (∀ w', Vr w' → Calls Tryz.prog 28 #[.int .i64 L.number] w' fun e w'' => e = .returned (sv nm) ∧ Fr No w' w'') := Lib.hid fun w' hv => by rw [← hnme]; exact name_any L.number w' hv hn.1 hn.2
    have HM : Hid (mendW S L torn = if torn = true then (if (S.cut nm L.size).2 ≠ 0 then S.cut nm L.size else mend2 (S.cut nm L.size).1 nm) else mend2 S nm) := Lib.hid (by unfold mendW; rw [hq, if_neg h0, hnme])
    clear h0 hq hnme
    go_enter Tryz.func55, Tryz.ntmps55
    go_wp2_with fail
    refine HNUM.out.mono ?_
    rintro e w1 ⟨rfl, f1⟩
    have HL1 := Lib.hid (HL.out.keep f1)
    have F1 := Lib.hid f1
    clear f1 HNUM c4 HL
    go_wp2_with fail
    refine (HNA.out w1 HL1.out.vr).mono ?_
    rintro e w2 ⟨rfl, f2⟩
    have HL2 := Lib.hid (HL1.out.keep f2)
    have F2 : Hid (Fr (fun k => ¬ X k) w w2) := Lib.hid (F1.out.trans f2 fun _ _ h => h).any
    clear f2 HNA HL1 F1
    have c0 := HL2.out.one
    cases torn with
    | true =>
      have HM1 := Lib.hid (HM.out.trans (if_pos rfl))
      obtain ⟨fv, d0, d1, d2, d3, d4, d5, d6, d7, d8⟩ := HL2.out.cells
      clear HM d0 d1 d2 d3 d4 d5 d7 d8
      obtain ⟨sz, hsz⟩ : ∃ sz, L.size = sz := ⟨_, rfl⟩
      rw [hsz] at d6 HM1
      clear hsz
      go_upto_region 3 with fail
      go_still_tail 11, (by kernel_rfl)
      change wpList _ _ _ _ _ (World.drew _)
      have HL3 := Lib.hid (HL2.out.keep ((Fr.refl No w2).drew))
      have C0 := lg_cut HL3.out nm sz hnm
      go_wp2_with fail
      refine C0.mono ?_
      clear C0
      rintro e w3 ⟨rfl, h3, f3⟩
      have HL4 := Lib.hid h3
      have HF4 := Lib.hid (F2.out.drew.thenX f3)
      clear h3 f3 HL2 HL3 F2 c0 d6
      obtain ⟨S1, hS1⟩ : ∃ S1, (S.cut nm sz).1 = S1 := ⟨_, rfl⟩
      obtain ⟨E1, hE1⟩ : ∃ E1, (S.cut nm sz).2 = E1 := ⟨_, rfl⟩
      have HM2 : Hid (mendW S L true = if E1 ≠ 0 then (S1, E1) else mend2 S1 nm) := Lib.hid (by rw [HM1.out, hE1, hS1]; split; exact Prod.ext hS1 hE1; rfl)
      rw [hS1] at HL4
      rw [hE1]
      clear hS1 hE1 HM1
      by_cases he : E1 = 0
      · subst he
        have HM3 := Lib.hid (HM2.out.trans (if_neg (by simp)))
        have c0 := HL4.out.one
        clear HM2
        go_wp2_with (refine (must_ok _).mono ?_; rintro e w' ⟨rfl, rfl⟩)
        have C1 := lg_sync HL4.out nm hnm
        refine C1.mono ?_
        clear C1
        rintro e wa ⟨rfl, ha, fa⟩
        have HLa := Lib.hid ha
        have HFa := Lib.hid (HF4.out.thenX fa)
        clear ha fa
        obtain ⟨Sa, hSa⟩ : ∃ Sa, (S1.sync nm).1 = Sa := ⟨_, rfl⟩
        obtain ⟨Ea, hEa⟩ : ∃ Ea, (S1.sync nm).2 = Ea := ⟨_, rfl⟩
        have HVa : Hid (mend2 S1 nm = if Ea ≠ 0 then (Sa, Ea) else Sa.settle) := Lib.hid (by unfold mend2; rw [hEa, hSa]; split; exact Prod.ext hSa hEa; rfl)
        rw [hSa] at HLa
        rw [hEa]
        clear hSa hEa
        by_cases he : Ea = 0
        · subst he
          have HVb := Lib.hid (HM3.out.trans (HVa.out.trans (if_neg (by simp))))
          have n0 := HLa.out.one
          clear HVa
          go_wp2_with (refine (must_ok _).mono ?_; rintro e w' ⟨rfl, rfl⟩)
          have C2 := lg_settle HLa.out
          refine C2.mono ?_
          clear C2
          rintro e wb ⟨rfl, hb, fb⟩
          have HLb := Lib.hid hb
          have HFb := Lib.hid (HFa.out.thenX fb)
          clear hb fb
          obtain ⟨Eb, hEb⟩ : ∃ Eb, Sa.settle.2 = Eb := ⟨_, rfl⟩
          have HR : Hid ((mendW S L true).2 = Eb) := Lib.hid (by rw [HVb.out]; exact hEb)
          rw [hEb]
          clear hEb
          by_cases he : Eb = 0
          · subst he
            go_wp2_with (refine (must_ok _).mono ?_; rintro e w' ⟨rfl, rfl⟩)
            go_end0
            exact ⟨by rw [HR.out]; exact (mendE_zero).symm, by rw [HVb.out]; exact HLb.out, HFb.out⟩
          · have HMN := Lib.hid (must_no Eb he wb)
            have HME := Lib.hid (mendE_no he)
            clear he
            go_wp2_with fail
            refine HMN.out.mono ?_
            rintro e w' ⟨rfl, rfl⟩
            go_wp2_with fail
            exact ⟨rfl, by rw [HR.out]; exact HME.out.symm, by rw [HVb.out]; exact HLb.out, HFb.out⟩
        · have HVb := Lib.hid (HM3.out.trans (HVa.out.trans (if_pos he)))
          have HMN := Lib.hid (must_no Ea he wa)
          have HME := Lib.hid (mendE_no he)
          clear he HVa
          go_wp2_with fail
          refine HMN.out.mono ?_
          rintro e w' ⟨rfl, rfl⟩
          go_wp2_with fail
          exact ⟨rfl, by rw [HVb.out]; exact HME.out.symm, by rw [HVb.out]; exact HLa.out, HFa.out⟩
      · have HM3 := Lib.hid (HM2.out.trans (if_pos he))
        have HMN := Lib.hid (must_no E1 he w3)
        have HME := Lib.hid (mendE_no he)
        clear he HM2
        go_wp2_with fail
        refine HMN.out.mono ?_
        rintro e w' ⟨rfl, rfl⟩
        go_wp2_with fail
        exact ⟨rfl, by rw [HM3.out]; exact HME.out.symm, by rw [HM3.out]; exact HL4.out, HF4.out⟩
    | false =>
      have HM3 := Lib.hid (HM.out.trans (if_neg (by simp)))
      clear HM
      have C1 := lg_sync HL2.out nm hnm
      go_wp2_with fail
      refine C1.mono ?_
      clear C1
      rintro e wa ⟨rfl, ha, fa⟩
      have HLa := Lib.hid ha
      have HFa := Lib.hid (F2.out.thenX fa)
      clear ha fa
      obtain ⟨Sa, hSa⟩ : ∃ Sa, (S.sync nm).1 = Sa := ⟨_, rfl⟩
      obtain ⟨Ea, hEa⟩ : ∃ Ea, (S.sync nm).2 = Ea := ⟨_, rfl⟩
      have HVa : Hid (mend2 S nm = if Ea ≠ 0 then (Sa, Ea) else Sa.settle) := Lib.hid (by unfold mend2; rw [hEa, hSa]; split; exact Prod.ext hSa hEa; rfl)
      rw [hSa] at HLa
      rw [hEa]
      clear hSa hEa
      by_cases he : Ea = 0
      · subst he
        have HVb := Lib.hid (HM3.out.trans (HVa.out.trans (if_neg (by simp))))
        have n0 := HLa.out.one
        clear HVa
        go_wp2_with (refine (must_ok _).mono ?_; rintro e w' ⟨rfl, rfl⟩)
        have C2 := lg_settle HLa.out
        refine C2.mono ?_
        clear C2
        rintro e wb ⟨rfl, hb, fb⟩
        have HLb := Lib.hid hb
        have HFb := Lib.hid (HFa.out.thenX fb)
        clear hb fb
        obtain ⟨Eb, hEb⟩ : ∃ Eb, Sa.settle.2 = Eb := ⟨_, rfl⟩
        have HR : Hid ((mendW S L false).2 = Eb) := Lib.hid (by rw [HVb.out]; exact hEb)
        rw [hEb]
        clear hEb
        by_cases he : Eb = 0
        · subst he
          go_wp2_with (refine (must_ok _).mono ?_; rintro e w' ⟨rfl, rfl⟩)
          go_end0
          exact ⟨by rw [HR.out]; exact (mendE_zero).symm, by rw [HVb.out]; exact HLb.out, HFb.out⟩
        · have HMN := Lib.hid (must_no Eb he wb)
          have HME := Lib.hid (mendE_no he)
          clear he
          go_wp2_with fail
          refine HMN.out.mono ?_
          rintro e w' ⟨rfl, rfl⟩
          go_wp2_with fail
          exact ⟨rfl, by rw [HR.out]; exact HME.out.symm, by rw [HVb.out]; exact HLb.out, HFb.out⟩
      · have HVb := Lib.hid (HM3.out.trans (HVa.out.trans (if_pos he)))
        have HMN := Lib.hid (must_no Ea he wa)
        have HME := Lib.hid (mendE_no he)
        clear he HVa
        go_wp2_with fail
        refine HMN.out.mono ?_
        rintro e w' ⟨rfl, rfl⟩
        go_wp2_with fail
        exact ⟨rfl, by rw [HVb.out]; exact HME.out.symm, by rw [HVb.out]; exact HLa.out, HFa.out⟩
theorem mend_ok {w : World} {X : Nat → Prop} {d g N : Nat} {S : AS} {L : LS} (torn : Bool) (h : Lg w X d g N S L) (hz : (mendW S L torn).2 = 0) : Calls Tryz.prog 55 #[gpt g, .bool torn] w fun e w' => e = .returned (.tuple #[]) ∧ Lg w' X d g N (mendW S L torn).1 L ∧ Fr (fun k => ¬ X k) w w' := by
  refine (mend_any torn h).mono ?_
  rintro e w' ⟨he, h2⟩
  exact ⟨by rw [he, hz, mendE_zero], h2⟩
end Go.Proofs.YtccjkolcmdhliaaGreatDoor
/- Opening a log: what is deferred. -/
namespace Go.Proofs.YtccjkolcmdhliaaGreatDoor
open Go.RowKit Go.Maps
set_option linter.unusedVariables false

theorem assert_errno (n : Int) (w : World) : (Instr.typeAssert (.iface 39 (.int .i64 n)) 20 39 true).run Tryz.prog w = .ok (.tuple #[.int .i64 n, .bool true]) w := by kernel_rfl
set_option maxRecDepth 100000 in
theorem cause_any (n : Int) (w : World) : Calls Tryz.prog 51 #[given n] w fun e w' => e = .returned (.int .i64 n) ∧ w = w' := by
  unfold given
  have hta := assert_errno n w
  go_enter Tryz.func51, Tryz.ntmps51
  go_wp2
  go_ret
  exact ⟨rfl, rfl⟩
set_option maxRecDepth 100000 in
theorem opener_caught (p4 p5 p6 : Nat) (n : Int) (older : List PanicEntry) (w : World) {v4 v5 v6 : Value} (h4 : w.cell? ⟨p4, 0, none⟩ = some v4) (h5 : w.cell? ⟨p5, 0, none⟩ = some v5) (h6 : w.cell? ⟨p6, 0, none⟩ = some v6) (n45 : p4 ≠ p5) (n46 : p4 ≠ p6) (n56 : p5 ≠ p6)
    (f4 : w.frozen? ⟨p4, 0, none⟩ = false) (f5 : w.frozen? ⟨p5, 0, none⟩ = false) (f6 : w.frozen? ⟨p6, 0, none⟩ = false) :
    CallsD Tryz.prog 50 #[.pointer (some ⟨p4, 0, none⟩), .pointer (some ⟨p5, 0, none⟩), .pointer (some ⟨p6, 0, none⟩)] (.panicking ({ v := given n, recovered := false } :: older)) w fun e u' w' =>
      e = .returned (.tuple #[]) ∧ u' = .panicking ({ v := given n, recovered := true } :: older) ∧ w' = ((w.setCell ⟨p4, 0, none⟩ (.pointer none)).setCell ⟨p5, 0, none⟩ (.slice none 0 0)).setCell ⟨p6, 0, none⟩ (.int .i64 n) := by
  refine callsD_of_wpS Tryz.func50 rfl fun c₀ cs hu => ?_
  unfold given at *
  apply wpS_seq
  apply wpS_region
  simp [wpOpsS, go_sem, recoverD, hu, Tryz.ntmps50, Exit.thenS]
  refine wpS_of_wp ?_
  change Code.wp _ _ _ { tmps := #[.pointer (some ⟨p4, 0, none⟩), .pointer (some ⟨p5, 0, none⟩), .pointer (some ⟨p6, 0, none⟩), .iface 39 (.int .i64 n), .iface 39 (.int .i64 n), undef, undef, undef, undef], defers := [] } _
  have HC := Lib.hid (fun w => cause_any n w)
  unfold given at HC
  go_wp2_with (refine (HC.out _).mono ?_; rintro e w' ⟨rfl, rfl⟩)
  simp [bodyPostS, results, Tryz.results50, go_sem]
set_option maxRecDepth 100000 in
theorem opener_idle (p4 p5 p6 : Nat) (w : World) :
    CallsD Tryz.prog 50 #[.pointer (some ⟨p4, 0, none⟩), .pointer (some ⟨p5, 0, none⟩), .pointer (some ⟨p6, 0, none⟩)] .returning w fun e u' w' => e = .returned (.tuple #[]) ∧ u' = .returning ∧ w' = w := by
  refine callsD_of_wpS Tryz.func50 rfl fun c₀ cs hu => ?_
  apply wpS_seq
  apply wpS_region
  simp [wpOpsS, go_sem, recoverD, hu, Tryz.ntmps50, Exit.thenS]
  refine wpS_of_wp ?_
  change Code.wp _ _ _ { tmps := #[.pointer (some ⟨p4, 0, none⟩), .pointer (some ⟨p5, 0, none⟩), .pointer (some ⟨p6, 0, none⟩), .nilIface, .nilIface, undef, undef, undef, undef], defers := [] } _
  go_wp2
  cases c₀
  simp_all [bodyPostS, results, Tryz.results50, go_sem]
end Go.Proofs.YtccjkolcmdhliaaGreatDoor
/- Opening a log: Open, where the power is on. -/
namespace Go.Proofs.YtccjkolcmdhliaaGreatDoor
open Go.RowKit Go.Maps
set_option linter.unusedVariables false

def GoodR (rs : List RcP) : Prop := ∀ r ∈ rs, r.Ok ∧ 1 ≤ r.seq
theorem followsW_pos {rs : List RcP} {r : RcP} (h : followsW rs r = true) : 1 ≤ r.seq := by
  unfold followsW at h
  split at h
  · simpa using h
  · simp at h; omega
theorem scanW_good : ∀ (k : Nat) (rs : List RcP) (D : List UInt8) (a : Nat) (rs' : List RcP) (a' : Nat), D.length ≤ 1073741824 → GoodR rs → scanW k rs D a = some (rs', a') → GoodR rs'
  | 0, rs, D, a, rs', a', h, hg, e => by
    rw [scanW] at e
    obtain ⟨rfl, rfl⟩ := Prod.mk.inj (Option.some.inj e)
    exact hg
  | k + 1, rs, D, a, rs', a', h, hg, e => by
    by_cases hlt : a < D.length
    · rw [scanW_step hlt] at e
      split at e
      · obtain ⟨rfl, rfl⟩ := Prod.mk.inj (Option.some.inj e)
        exact hg
      · split at e
        · exact nomatch e
        · rename_i h0
          split at e
          · exact nomatch e
          · split at e
            · rename_i hfo
              obtain ⟨h1, h2, h3⟩ := unfR_size (D.drop a) (by simpa using h0)
              rw [List.length_drop] at h3
              refine scanW_good k _ D _ rs' a' h (fun r hr => ?_) e
              rcases List.mem_append.1 hr with hr | hr
              · exact hg r hr
              · rw [List.mem_singleton] at hr
                rw [hr]
                exact ⟨unRec_ok _ (by omega), followsW_pos hfo⟩
            · exact nomatch e
    · rw [scanW_end hlt] at e
      obtain ⟨rfl, rfl⟩ := Prod.mk.inj (Option.some.inj e)
      exact hg
theorem loadStep_good {N : Nat} {S : AS} (hi : Inv N S) {b : Bool} {x y : LdP} {m : Int} (hg : GoodR x.1) (h : loadStep S b x m = .ok y) : GoodR y.1 ∧ y.1.length ≤ x.1.length + 2097152 := by
  unfold loadStep at h
  split at h
  · exact nomatch h
  · split at h
    · exact nomatch h
    · split at h
      · exact nomatch h
      · split at h
        · exact nomatch h
        · rename_i rs at_ hs
          have hl := read_len hi (nameW m)
          have hn := scanW_len _ _ _ _ _ _ (Nat.zero_le _) hs
          have hgg := scanW_good _ _ _ _ _ _ (by omega) hg hs
          cases h
          exact ⟨hgg, by simp only; omega⟩
theorem loadW_good {N : Nat} {S : AS} (hi : Inv N S) : ∀ (ns : List Int) (b : Bool) (x y : LdP), GoodR x.1 → loadW S b x ns = .ok y → GoodR y.1 ∧ y.1.length ≤ x.1.length + ns.length * 2097152
  | [], b, x, y, hg, h => by
    have := lread_nil h
    cases this
    exact ⟨hg, by simp⟩
  | m :: ms, b, x, y, hg, h => by
    rw [loadW_cons] at h
    split at h
    · exact nomatch h
    · rename_i z hz
      obtain ⟨h1, h2⟩ := loadStep_good hi hg hz
      obtain ⟨h3, h4⟩ := loadW_good hi ms false z y h1 h
      exact ⟨h3, by simp only [List.length_cons]; omega⟩

theorem Grow.down {b b' : Nat} {w : World} {v : Value} {l : List RcP} (h : Grow b 52 2 recG w v l) (hb : b' ≤ b) : Grow b' 52 2 recG w v l := by
  obtain ⟨K, xs, ho, hel, hK⟩ := h
  exact ⟨K, xs, own_base ho hb, hel, fun k hk => ⟨Nat.le_trans hb (hK k hk).1, (hK k hk).2⟩⟩
def L0 : LS := ⟨0, 0, 0, [], 0, false, false⟩
/-- The log in its box, on its disk. -/
theorem Dk.boxed {w : World} {X : Nat → Prop} {d N : Nat} {S : AS} (h : Dk w X d N S) (hv : Vr w) (lo : ∀ k, k < 4 → X k) (hN : N ≤ 1000000000) : Lg (w.alloc (.cells (L0.cells d (.slice none 0 0)) 71)) X d w.heap.size N S L0 := by
  have hf : Fr No w (w.alloc (.cells (L0.cells d (.slice none 0 0)) 71)) := (Fr.refl _ w).alloc _
  refine ⟨hv.keep hf, lo, ⟨.slice none 0 0, ⟨Blk.new w 71 _, ⟨rfl, .inl ⟨rfl, rfl⟩⟩⟩, h.grow (hf.any) fun k hk => ?_, fun hx => ?_, fun k hk => by simp [Value.ownBlock] at hk⟩, ⟨by simp [L0], by simp [L0], by simp [L0, LS.number, numOf]; omega, by simp [L0]; omega, by simp [L0]⟩, hN⟩
  · rcases hk with hk | hk | hk
    · exact ⟨Nat.lt_of_lt_of_le (h.base k hk) hf.size, .inl hk⟩
    · rw [hk]; exact ⟨by simp, .inr (Nat.le_refl _)⟩
    · simp [Value.ownBlock] at hk
  · have := h.base _ hx; omega
theorem Lg.less {w : World} {X Y : Nat → Prop} {d g N : Nat} {S : AS} {L : LS} (h : Lg w X d g N S L) (hYX : ∀ k, Y k → X k) (lo : ∀ k, k < 4 → Y k) : Lg w Y d g N S L := by
  obtain ⟨fv, h1, h2, h3, h4⟩ := h.log
  exact ⟨h.vr, lo, ⟨fv, h1, h2.less fun k hk => by
    rcases hk with hk | hk
    · exact .inl (hYX k hk)
    · exact .inr hk, fun hy => h3 (hYX g hy), fun k hk hy => h4 k hk (hYX k hy)⟩, h.ok, h.big⟩

def openR (S : AS) (m : Int) : Except Int LdP → Except Int (AS × LS × List RcP)
  | .error e => .error e
  | .ok (rs, L, torn) => if fitsW rs m = true then (if (mendW S L torn).2 = 0 then .ok ((mendW S L torn).1, { L with last := if rs.length = 0 then m else lastSeq rs, firm := if rs.length = 0 then m else lastSeq rs }, behindW rs m) else .error (mendW S L torn).2) else .error 24
/-- The disk behind it. -/
def openF (S : AS) (m : Int) : Except Int LdP → AS
  | .error _ => S
  | .ok (rs, L, torn) => if fitsW rs m = true then (mendW S L torn).1 else S
def openW (S : AS) (m : Int) : Except Int (AS × LS × List RcP) := openR S m (loadW S true ([], L0, false) (segsW (sortedKeys S.names)))
def openS (S : AS) (m : Int) : AS := openF S m (loadW S true ([], L0, false) (segsW (sortedKeys S.names)))
def OpenP (X : Nat → Prop) (d N : Nat) (S : AS) (m : Int) (w : World) (e : Ending) (w' : World) : Prop :=
  (∀ x, openW S m = .ok x → ∃ g A c X1, e = .returned (.tuple #[gpt g, .slice A x.2.2.length c, .int .i64 0]) ∧ (∀ k, X k → X1 k) ∧ Lg w' X1 d g N x.1 x.2.1 ∧ Grow w.heap.size 52 2 recG w' (.slice A x.2.2.length c) x.2.2 ∧ (∀ k, (Value.slice A x.2.2.length c).ownBlock = some k → X1 k) ∧ w.heap.size ≤ g) ∧
    (∀ n, openW S m = .error n → e = .returned (.tuple #[.pointer none, .slice none 0 0, .int .i64 n]) ∧ Dk w' X d N (openS S m)) ∧ Vr w' ∧ Fr (fun k => ¬ X k) w w'
set_option maxRecDepth 100000 in
set_option maxHeartbeats 4000000 in
theorem open_on {w : World} {X : Nat → Prop} {d N : Nat} {S : AS} (m : Int) (h : Dk w X d N S) (hv : Vr w) (lo : ∀ k, k < 4 → X k) (hN : N ≤ 1000000000) (hon : S.on = true) (hm0 : 0 ≤ m) (hm1 : m ≤ 9223372036854775807) :
    Calls Tryz.prog 19 #[dkp d, .int .i64 m] w (OpenP X d N S m w) := by
  have hmf : ∀ (fn : Fn) (first cap : Array Value) (w : World), (Instr.makeFunc fn first cap).run Tryz.prog w = .ok (.func fn first cap) w := fun _ _ _ _ => rfl
  have hOn : ∀ w' : World, Fr No w w' → Calls Tryz.prog 49 #[.pointer (some ⟨d, 0, none⟩)] w' fun e w'' => e = .returned (.bool true) ∧ w' = w'' := fun w' hf => by
    have := x_on (h.keep hf)
    rwa [hon] at this
  have HON := Lib.hid hOn
  have H := Lib.hid h
  have HV := Lib.hid hv
  have HLO := Lib.hid lo
  unfold dkp
  clear h hOn hv lo
  go_enter_defers Tryz.func19, Tryz.ntmps19
  go_wp2_with fail
  obtain ⟨p4, hp4⟩ : ∃ p, w.heap.size = p := ⟨_, rfl⟩
  obtain ⟨p5, hp5⟩ : ∃ p, w.heap.size + 1 = p := ⟨_, rfl⟩
  obtain ⟨p6, hp6⟩ : ∃ p, w.heap.size + 1 + 1 = p := ⟨_, rfl⟩
  obtain ⟨wa1, hwa1⟩ : ∃ wa, w.alloc (.cells #[.pointer none] 29) = wa := ⟨_, rfl⟩
  obtain ⟨wa2, hwa2⟩ : ∃ wa, wa1.alloc (.cells #[.slice none 0 0] 43) = wa := ⟨_, rfl⟩
  obtain ⟨wa, hwa⟩ : ∃ wa, wa2.alloc (.cells #[.int .i64 0] 39) = wa := ⟨_, rfl⟩
  have fa1 : Fr No w wa1 := by rw [← hwa1]; exact (Fr.refl _ w).alloc _
  have fa2 : Fr No wa1 wa2 := by rw [← hwa2]; exact (Fr.refl _ wa1).alloc _
  have fa3 : Fr No wa2 wa := by rw [← hwa]; exact (Fr.refl _ wa2).alloc _
  have fa : Fr No w wa := (fa1.trans fa2 fun _ _ h => h).trans fa3 fun _ _ h => h
  have s1 : wa1.heap.size = p5 := by rw [← hwa1, ← hp5]; simp
  have s2 : wa2.heap.size = p6 := by rw [← hwa2, ← hp6]; simp [s1, ← hp5]
  have ba4 : Blk wa p4 29 #[.pointer none] := by
    have h1 : Blk wa1 p4 29 #[.pointer none] := by rw [← hwa1, ← hp4]; exact Blk.new w 29 _
    have h2 := h1.of (fa2.block p4 h1.lt id)
    exact h2.of (fa3.block p4 h2.lt id)
  have ba5 : Blk wa p5 43 #[.slice none 0 0] := by
    have h2 : Blk wa2 p5 43 #[.slice none 0 0] := by rw [← hwa2, ← s1]; exact Blk.new wa1 43 _
    exact h2.of (fa3.block p5 h2.lt id)
  have ba6 : Blk wa p6 39 #[.int .i64 0] := by rw [← hwa, ← s2]; exact Blk.new wa2 39 _
  have hs4 : 4 ≤ w.heap.size := HV.out.lt
  have q4 : 4 ≤ p4 := by omega
  have q5 : p4 < p5 := by omega
  have q6 : p5 < p6 := by omega
  obtain ⟨X0, hX0⟩ : ∃ X0 : Nat → Prop, (fun k => X k ∨ k = p4 ∨ k = p5 ∨ k = p6) = X0 := ⟨_, rfl⟩
  have HX0 : Hid (∀ k, X0 k ↔ (X k ∨ k = p4 ∨ k = p5 ∨ k = p6)) := Lib.hid fun k => by rw [← hX0]
  have hdk : Dk wa X0 d N S := H.out.grow fa.any fun k hk => by
    rcases (HX0.out k).1 hk with hk | hk | hk | hk
    · exact ⟨Nat.lt_of_lt_of_le (H.out.base k hk) fa.size, .inl hk⟩
    · rw [hk]; exact ⟨ba4.lt, .inr (by omega)⟩
    · rw [hk]; exact ⟨ba5.lt, .inr (by omega)⟩
    · rw [hk]; exact ⟨ba6.lt, .inr (by omega)⟩
  obtain ⟨g, hg⟩ : ∃ g, wa.heap.size = g := ⟨_, rfl⟩
  obtain ⟨wb, hwb⟩ : ∃ wb, wa.alloc (.cells #[.iface 25 (.pointer (some ⟨d, 0, none⟩)), .int .i64 0, .int .i64 0, .int .i64 0, .slice none 0 0, .int .i64 0, .bool false, .bool false] 71) = wb := ⟨_, rfl⟩
  have hlgb : Lg wb X0 d g N S L0 := by
    rw [← hwb, ← hg]
    exact hdk.boxed (HV.out.keep fa) (fun k hk => (HX0.out k).2 (.inl (HLO.out k hk))) hN
  have fb : Fr No wa wb := by rw [← hwb]; exact (Fr.refl _ wa).alloc _
  have bb4 := ba4.of (fb.block p4 ba4.lt id)
  have bb5 := ba5.of (fb.block p5 ba5.lt id)
  have bb6 := ba6.of (fb.block p6 ba6.lt id)
  obtain ⟨wc, hwc⟩ : ∃ wc, wb.setCell ⟨p4, 0, none⟩ (.pointer (some ⟨g, 0, none⟩)) = wc := ⟨_, rfl⟩
  have fc : Fr (fun k => k = p4) wb wc := by rw [← hwc]; exact (Fr.refl (fun k => k = p4) wb).setCell (p := ⟨p4, 0, none⟩) (fun _ => rfl) _
  have bc4 : Blk wc p4 29 #[gpt g] := by rw [← hwc]; exact bb4.set_ 0 _
  have bc5 := bb5.of (fc.block p5 bb5.lt (by omega))
  have bc6 := bb6.of (fc.block p6 bb6.lt (by omega))
  have hlgc : Lg wc X0 d g N S L0 := hlgb.grow fc (fun k hk => ⟨(HX0.out k).2 (.inr (.inl hk)), by omega⟩) (fun k hk => hk) fun k hk => ⟨Nat.lt_of_lt_of_le (hlgb.base k hk) fc.size, .inl hk⟩
  have hfc : Fr No w wc := ((fa.trans fb fun _ _ h => h).any.trans fc fun k _ hk => hk).no_of (b := p4) (by omega) fun k hk => by omega
  have z4 : (wa.alloc (.cells #[.iface 25 (.pointer (some ⟨d, 0, none⟩)), .int .i64 0, .int .i64 0, .int .i64 0, .slice none 0 0, .int .i64 0, .bool false, .bool false] 71)).cell? ⟨p4, 0, none⟩ = some (.pointer none) := by rw [hwb]; exact bb4.cell 0
  have y4 : (wa.alloc (.cells #[.iface 25 (.pointer (some ⟨d, 0, none⟩)), .int .i64 0, .int .i64 0, .int .i64 0, .slice none 0 0, .int .i64 0, .bool false, .bool false] 71)).frozen? ⟨p4, 0, none⟩ = false := by rw [hwb]; exact bb4.frozen 0
  have HLG := Lib.hid hlgc
  have HFC := Lib.hid hfc
  have HB4 := Lib.hid bc4
  have HB5 := Lib.hid bc5
  have HB6 := Lib.hid bc6
  have HWA := Lib.hid hwa
  have HWB := Lib.hid hwb
  have HWC := Lib.hid hwc
  have HG := Lib.hid hg
  have HFA := Lib.hid fa
  have HP4 := Lib.hid hp4
  have HGL : Hid (w.heap.size ≤ g) := Lib.hid (by rw [← hg]; exact fa.size)
  rw [hwa1, hwa2, hwa, hp6, hp5, hp4]
  clear fa1 fa2 fa3 fa s1 s2 ba4 ba5 ba6 hdk hlgb fb bb4 bb5 bb6 fc bc4 bc5 bc6 hlgc hfc hwa1 hwa2 hwa hwb hwc hg hX0 hp4 hp5 hp6 hs4
  refine (HON.out wa HFA.out).mono ?_
  rintro e w' ⟨rfl, rfl⟩
  go_upto_region 7 with fail
  rw [HG.out, HWB.out, HWC.out]
  clear z4 y4
  have c4 : wc.cell? ⟨p4, 0, none⟩ = some (.pointer (some ⟨g, 0, none⟩)) := HB4.out.cell 0
  have HLOAD := Lib.hid (lload_any HLG.out hon rfl)
  unfold gpt at HLOAD
  obtain ⟨R, hR⟩ : ∃ R, loadW S true ([], L0, false) (segsW (sortedKeys S.names)) = R := ⟨_, rfl⟩
  rw [hR] at HLOAD
  have hgood : ∀ x, R = .ok x → GoodR x.1 ∧ x.1.length ≤ 134217728 := fun x hx => by
    obtain ⟨h1, h2⟩ := loadW_good H.out.inv _ _ _ _ (fun r hr => by simp at hr) (hR.trans hx)
    have h3 := segsW_len (sortedKeys S.names)
    have h4 := (H.out.keys hon).1
    exact ⟨h1, by simp at h2; omega⟩
  have hop : openW S m = openR S m R := by unfold openW; rw [hR]
  have HOP := Lib.hid hop
  have HOS : Hid (openS S m = openF S m R) := Lib.hid (by unfold openS; rw [hR])
  have HGOOD := Lib.hid hgood
  clear hop hgood hR
  go_wp2_with fail
  cases R with
  | error n =>
    refine HLOAD.out.mono ?_
    rintro e w1 ⟨-, h1, h2, h3, h4⟩
    obtain rfl := h1 n rfl
    have d4 := HB4.out.of (h4.block p4 HB4.out.lt fun hn => hn ((HX0.out p4).2 (.inr (.inl rfl))))
    have d5 := HB5.out.of (h4.block p5 HB5.out.lt fun hn => hn ((HX0.out p5).2 (.inr (.inr (.inl rfl)))))
    have d6 := HB6.out.of (h4.block p6 HB6.out.lt fun hn => hn ((HX0.out p6).2 (.inr (.inr (.inr rfl)))))
    have H2 := Lib.hid h2
    have H3 := Lib.hid h3
    have H4 := Lib.hid h4
    clear h1 h2 h3 h4 HLOAD
    go_wp2_with fail
    have e4 : w1.cell? ⟨p4, 0, none⟩ = some (.pointer (some ⟨g, 0, none⟩)) := d4.cell 0
    have e5 : w1.cell? ⟨p5, 0, none⟩ = some (.slice none 0 0) := d5.cell 0
    have e6 : w1.cell? ⟨p6, 0, none⟩ = some (.int .i64 0) := d6.cell 0
    refine leaves_cons (f := 50) (args := #[.pointer (some ⟨p4, 0, none⟩), .pointer (some ⟨p5, 0, none⟩), .pointer (some ⟨p6, 0, none⟩)]) (by simp) (by simp [go_sem]) ?_
    refine (opener_caught p4 p5 p6 n [] w1 e4 e5 e6 (by omega) (by omega) (by omega) (d4.frozen 0) (d5.frozen 0) (d6.frozen 0)).mono ?_
    rintro e u' wz ⟨rfl, rfl, hwz⟩
    have fz : Fr (fun k => k = p4 ∨ k = p5 ∨ k = p6) w1 wz := by
      rw [hwz]
      exact (((Fr.refl (fun k => k = p4 ∨ k = p5 ∨ k = p6) w1).setCell (p := ⟨p4, 0, none⟩) (fun _ => .inl rfl) _).setCell (p := ⟨p5, 0, none⟩) (fun _ => .inr (.inl rfl)) _).setCell (p := ⟨p6, 0, none⟩) (fun _ => .inr (.inr rfl)) _
    have g1 : Fr (fun k => k = p4) w1 (w1.setCell ⟨p4, 0, none⟩ (.pointer none)) := (Fr.refl (fun k => k = p4) w1).setCell (p := ⟨p4, 0, none⟩) (fun _ => rfl) _
    have a4 : Blk (w1.setCell ⟨p4, 0, none⟩ (.pointer none)) p4 29 #[.pointer none] := d4.set_ 0 _
    have a5 := d5.of (g1.block p5 d5.lt (by omega))
    have a6 := d6.of (g1.block p6 d6.lt (by omega))
    obtain ⟨v1, hv1⟩ : ∃ v1, w1.setCell ⟨p4, 0, none⟩ (.pointer none) = v1 := ⟨_, rfl⟩
    rw [hv1] at hwz a4 a5 a6
    have g2 : Fr (fun k => k = p5) v1 (v1.setCell ⟨p5, 0, none⟩ (.slice none 0 0)) := (Fr.refl (fun k => k = p5) v1).setCell (p := ⟨p5, 0, none⟩) (fun _ => rfl) _
    have i5 : Blk (v1.setCell ⟨p5, 0, none⟩ (.slice none 0 0)) p5 43 #[.slice none 0 0] := a5.set_ 0 _
    have i4 := a4.of (g2.block p4 a4.lt (by omega))
    have i6 := a6.of (g2.block p6 a6.lt (by omega))
    obtain ⟨v2, hv2⟩ : ∃ v2, v1.setCell ⟨p5, 0, none⟩ (.slice none 0 0) = v2 := ⟨_, rfl⟩
    rw [hv2] at hwz i4 i5 i6
    have g3 : Fr (fun k => k = p6) v2 (v2.setCell ⟨p6, 0, none⟩ (.int .i64 n)) := (Fr.refl (fun k => k = p6) v2).setCell (p := ⟨p6, 0, none⟩) (fun _ => rfl) _
    have j6 : Blk (v2.setCell ⟨p6, 0, none⟩ (.int .i64 n)) p6 39 #[.int .i64 n] := i6.set_ 0 _
    have j4 := i4.of (g3.block p4 i4.lt (by omega))
    have j5 := i5.of (g3.block p5 i5.lt (by omega))
    rw [← hwz] at j4 j5 j6
    have o4 : wz.cell? ⟨p4, 0, none⟩ = some (.pointer none) := j4.cell 0
    have o5 : wz.cell? ⟨p5, 0, none⟩ = some (.slice none 0 0) := j5.cell 0
    have o6 : wz.cell? ⟨p6, 0, none⟩ = some (.int .i64 n) := j6.cell 0
    refine ⟨.tuple #[.pointer none, .slice none 0 0, .int .i64 n], by simp [results, Tryz.results19, go_sem, o4, o5, o6], fun x hx => ?_, fun n' hx => ?_, ?_, ?_⟩
    · rw [HOP.out] at hx; exact nomatch hx
    · rw [HOP.out] at hx
      cases hx
      rw [HOS.out]
      refine ⟨rfl, (H2.out.side (fz.mono fun k _ hk => (HX0.out k).2 (.inr hk))).less fun k hk => (HX0.out k).2 (.inl hk)⟩
    · exact H3.out.of fun k hk => fz.block k (by have := H3.out.lt; omega) (by omega)
    · refine ((HFC.out.any.trans H4.out fun k _ hk hx => hk ((HX0.out k).2 (.inl hx))).trans fz fun k hk ho => ?_)
      have := HP4.out
      omega
  | ok x =>
    obtain ⟨rs, L, torn⟩ := x
    obtain ⟨hgr, hlen⟩ := HGOOD.out _ rfl
    simp only at hgr hlen
    refine HLOAD.out.mono ?_
    rintro e w1 ⟨h1, -, h2, h3, h4⟩
    obtain ⟨A, c, X1, b1, rfl, hX01, hlg1, hg1, hb1, hown⟩ := h1 _ rfl
    simp only at hlg1 hg1 hown
    have d4 := HB4.out.of (h4.block p4 HB4.out.lt fun hn => hn ((HX0.out p4).2 (.inr (.inl rfl))))
    have d5 := HB5.out.of (h4.block p5 HB5.out.lt fun hn => hn ((HX0.out p5).2 (.inr (.inr (.inl rfl)))))
    have d6 := HB6.out.of (h4.block p6 HB6.out.lt fun hn => hn ((HX0.out p6).2 (.inr (.inr (.inr rfl)))))
    have HFT := Lib.hid (fits_any m hg1 (fun r hr => ⟨(hgr r hr).2, (hgr r hr).1.1.2⟩) (by omega))
    have HX01 := Lib.hid hX01
    have HLG1 := Lib.hid hlg1
    have HG1 := Lib.hid hg1
    have HOWN := Lib.hid hown
    have H2 := Lib.hid h2
    have H3 := Lib.hid h3
    have H4 := Lib.hid h4
    have HD4 := Lib.hid d4
    have HD5 := Lib.hid d5
    have HD6 := Lib.hid d6
    have HB1 := Lib.hid hb1
    have HGR := Lib.hid hgr
    clear h1 h2 h3 h4 HLOAD hX01 hlg1 hg1 hown d4 d5 d6 hb1 c4 hgr
    go_wp2_with fail
    refine HFT.out.mono ?_
    rintro e w2 ⟨rfl, f2⟩
    have F2 := Lib.hid f2
    clear f2 HFT
    by_cases hf : fitsW rs m = true
    · by_cases hmz : (mendW S L torn).2 = 0
      · have HOP2 : Hid (openW S m = .ok ((mendW S L torn).1, { L with last := if rs.length = 0 then m else lastSeq rs, firm := if rs.length = 0 then m else lastSeq rs }, behindW rs m)) := Lib.hid (HOP.out.trans ((if_pos hf).trans (if_pos hmz)))
        rw [hf]
        have HMN := Lib.hid (mend_ok torn (HLG1.out.keep F2.out) hmz)
        unfold gpt at HMN
        have d4 := HD4.out.of (F2.out.block p4 HD4.out.lt id)
        have c4 : w2.cell? ⟨p4, 0, none⟩ = some (.pointer (some ⟨g, 0, none⟩)) := d4.cell 0
        have HE4 := Lib.hid d4
        clear hf hmz d4
        go_upto_region 9 with (refine (check_ok _).mono ?_; rintro e w' ⟨rfl, rfl⟩)
        go_wp2_with fail
        refine HMN.out.mono ?_
        rintro e w3 ⟨rfl, h3, f3⟩
        have p4x : X1 p4 := HX01.out p4 ((HX0.out p4).2 (.inr (.inl rfl)))
        have p5x : X1 p5 := HX01.out p5 ((HX0.out p5).2 (.inr (.inr (.inl rfl))))
        have p6x : X1 p6 := HX01.out p6 ((HX0.out p6).2 (.inr (.inr (.inr rfl))))
        have HP4X := Lib.hid p4x
        have HP5X := Lib.hid p5x
        have HP6X := Lib.hid p6x
        have k4 := HE4.out.of (f3.block p4 HE4.out.lt fun hn => hn p4x)
        have HK4 := Lib.hid k4
        have c43 : w3.cell? ⟨p4, 0, none⟩ = some (.pointer (some ⟨g, 0, none⟩)) := k4.cell 0
        obtain ⟨fv3, z0, z1, z2, z3, z4, z5, z6, z7, z8⟩ := h3.cells
        have y2 := h3.frozen 2
        have hok := h3.ok
        have hS := h3.set 2 (.int .i64 m) { L with last := m } (fun _ => rfl) rfl ⟨⟨hm0, hm1⟩, hok.firm, hok.number, hok.size, hok.files⟩
        obtain ⟨w4, hw4⟩ : ∃ w4, w3.setCell ⟨g, 2, none⟩ (.int .i64 m) = w4 := ⟨_, rfl⟩
        rw [hw4] at hS
        have HS := Lib.hid hS
        have HF3 := Lib.hid f3
        have HW4 := Lib.hid hw4
        clear h3 f3 p4x p5x p6x k4 z0 z1 z3 z4 z5 z6 z7 z8 hok hS hw4 HMN c4
        go_upto_region 12 with fail
        rw [HW4.out]
        clear z2 y2 c43
        have c44 : w4.cell? ⟨p4, 0, none⟩ = some (.pointer (some ⟨g, 0, none⟩)) := (HK4.out.of (HS.out.2.block p4 HK4.out.lt fun hn => hn HP4X.out)).cell 0
        obtain ⟨fv4, z0, z1, z2, z3, z4, z5, z6, z7, z8⟩ := HS.out.1.cells
        have y2 := HS.out.1.frozen 2
        have y3 := HS.out.1.frozen 3
        have n2 : w4.cell? ⟨g, 2, none⟩ = some (.int .i64 m) := z2
        have n3 : w4.cell? ⟨g, 3, none⟩ = some (.int .i64 L.firm) := z3
        clear z0 z1 z2 z3 z4 z5 z6 z7 z8
        have HLEN := Lib.hid hlen
        by_cases hz : rs.length = 0
        · have t0 : decide (0 < rs.length) = false := decide_eq_false (by omega)
          have HLST : Hid ((if rs.length = 0 then m else lastSeq rs) = m) := Lib.hid (if_pos hz)
          have hlq : 0 ≤ m ∧ m ≤ 9223372036854775807 := ⟨hm0, hm1⟩
          have HG4 := Lib.hid (((HG1.out.keep recG_elem F2.out fun k hk => hk.elim).keepG HF3.out fun k hk hn => hn (HOWN.out k hk).1).keepG HS.out.2 fun k hk hn => hn (HOWN.out k hk).1)
          go_upto_region 14 with fail
          have HL5 : Hid (Lg w4 X1 d g N (mendW S L torn).1 { L with last := m }) := Lib.hid HS.out.1
          have HF5 : Hid (Fr (fun k => ¬ X1 k) w4 w4) := Lib.hid (Fr.refl _ w4)
          obtain ⟨w5, hw5⟩ : ∃ w5, w4 = w5 := ⟨_, rfl⟩
          rw [hw5] at HL5
          have HF5' : Hid (Fr (fun k => ¬ X1 k) w4 w5) := Lib.hid (by rw [← hw5]; exact Fr.refl _ w4)
          rw [hw5]
          clear HF5 n2 n3 y2 y3 c44
          have HF5 := HF5'
          clear HF5' hw5
          obtain ⟨lst, hlst⟩ : ∃ lst, m = lst := ⟨_, rfl⟩
          rw [hlst] at HL5 hlq
          have HLST' : Hid ((if rs.length = 0 then m else lastSeq rs) = lst) := Lib.hid (by rw [HLST.out, hlst])
          clear HLST t0 hlst
          have HLST := HLST'
          clear HLST'
          have hz' := hz
          clear hz
          obtain ⟨fv5, z0, z1, z2, z3, z4, z5, z6, z7, z8⟩ := HL5.out.cells
          have n2 : w5.cell? ⟨g, 2, none⟩ = some (.int .i64 lst) := z2
          have n3 : w5.cell? ⟨g, 3, none⟩ = some (.int .i64 L.firm) := z3
          have y3 := HL5.out.frozen 3
          have fx4 : Fr (fun k => ¬ X1 k) w2 w5 := (HF3.out.thenX HS.out.2).thenX HF5.out
          have k5 := HE4.out.of (fx4.block p4 HE4.out.lt fun hn => hn HP4X.out)
          have c45 : w5.cell? ⟨p4, 0, none⟩ = some (.pointer (some ⟨g, 0, none⟩)) := k5.cell 0
          have HK5 := Lib.hid k5
          have HFX4 := Lib.hid fx4
          clear z0 z1 z2 z3 z4 z5 z6 z7 z8 fx4 k5
          go_still_tail 7, (by kernel_rfl)
          change wpList _ _ _ _ _ (World.drew _)
          go_upto_region 15 with fail
          obtain ⟨w6, hw6⟩ : ∃ w6, (w5.setCell ⟨g, 3, none⟩ (.int .i64 lst)).drew = w6 := ⟨_, rfl⟩
          have hok5 := HL5.out.ok
          have hS6 := HL5.out.set 3 (.int .i64 lst) { L with last := lst, firm := lst } (fun _ => rfl) rfl ⟨hok5.last, hlq, hok5.number, hok5.size, hok5.files⟩
          have HL6 : Hid (Lg w6 X1 d g N (mendW S L torn).1 { L with last := lst, firm := lst }) := Lib.hid (by rw [← hw6]; exact hS6.1.keep ((Fr.refl No _).drew))
          have f56 : Fr (fun k => ¬ X1 k) w5 w6 := by rw [← hw6]; exact hS6.2.drew
          have HG6 := Lib.hid ((HG4.out.keepG HF5.out fun k hk hn => hn (HOWN.out k hk).1).keepG f56 fun k hk hn => hn (HOWN.out k hk).1)
          have HK6 := Lib.hid (HK5.out.of (f56.block p4 HK5.out.lt fun hn => hn HP4X.out))
          have HFX6 := Lib.hid (HFX4.out.thenX f56)
          rw [hw6]
          clear hS6 hok5 hw6 f56 n2 n3 y3 c45
          have c46 : w6.cell? ⟨p4, 0, none⟩ = some (.pointer (some ⟨g, 0, none⟩)) := HK6.out.cell 0
          have d56 := HD5.out.of (((Fr.refl No w1).trans F2.out fun _ _ h => h).block p5 HD5.out.lt id)
          have d66 := HD6.out.of (((Fr.refl No w1).trans F2.out fun _ _ h => h).block p6 HD6.out.lt id)
          have HK56 := Lib.hid (d56.of (HFX6.out.block p5 d56.lt fun hn => hn HP5X.out))
          have HK66 := Lib.hid (d66.of (HFX6.out.block p6 d66.lt fun hn => hn HP6X.out))
          have HBH := Lib.hid (behind_any m (HG6.out.keep recG_elem ((Fr.refl No w6).drew) fun k hk => hk.elim) (by have := HLEN.out; omega) (fun r hr => (HGR.out r hr).1))
          rw [hz'] at HBH
          clear d56 d66
          have n45 : p4 ≠ p5 := by omega
          have n46 : p4 ≠ p6 := by omega
          have n56 : p5 ≠ p6 := by omega
          have HK6D : Hid ((w6.drew).cell? ⟨p4, 0, none⟩ = some (.pointer (some ⟨g, 0, none⟩))) := Lib.hid ((HK6.out.of (((Fr.refl No w6).drew).block p4 HK6.out.lt id)).cell 0)
          go_region_held3 (fun w' => w'.cell? ⟨p4, 0, none⟩ = some (.pointer (some ⟨g, 0, none⟩)))
            (first | exact HL4.out.cell 0 | exact HK6D.out | exact HQ4.out.cell 0 | exact HQ5.out.cell 0 | exact HQ6.out.cell 0 | go_keep)
            (first | (go_at_call 56; refine HBH.out.mono ?_; rintro e w7 ⟨A7, c7, rfl, hg7, f7⟩; have HF7 := Lib.hid (((Fr.refl No w6).drew).trans f7 fun _ _ h => h); have HG7 := Lib.hid hg7; have l4 := HK6.out.of (HF7.out.block p4 HK6.out.lt id); have l5 := HK56.out.of (HF7.out.block p5 HK56.out.lt id); have l6 := HK66.out.of (HF7.out.block p6 HK66.out.lt id); have HL4 := Lib.hid l4; have HL5' := Lib.hid l5; have HL6' := Lib.hid l6; have v4 : w7.cell? ⟨p4, 0, none⟩ = some (.pointer (some ⟨g, 0, none⟩)) := l4.cell 0; have u4 := l4.frozen 0; have v5 : w7.cell? ⟨p5, 0, none⟩ = some (.slice none 0 0) := l5.cell 0; have u5 := l5.frozen 0; have v6 : w7.cell? ⟨p6, 0, none⟩ = some (.int .i64 0) := l6.cell 0; have u6 := l6.frozen 0; have b4 := l4.set_ 0 (.pointer (some ⟨g, 0, none⟩)); have hb5 : Fr (fun k => k = p5) (w7.setCell ⟨p4, 0, none⟩ (.pointer (some ⟨g, 0, none⟩))) ((w7.setCell ⟨p4, 0, none⟩ (.pointer (some ⟨g, 0, none⟩))).setCell ⟨p5, 0, none⟩ (.slice A7 (behindW rs m).length c7)) := (Fr.refl (fun k => k = p5) _).setCell (p := ⟨p5, 0, none⟩) (fun _ => rfl) _; have b45 := b4.of (hb5.block p4 b4.lt n45); have hb6 : Fr (fun k => k = p6) ((w7.setCell ⟨p4, 0, none⟩ (.pointer (some ⟨g, 0, none⟩))).setCell ⟨p5, 0, none⟩ (.slice A7 (behindW rs m).length c7)) (((w7.setCell ⟨p4, 0, none⟩ (.pointer (some ⟨g, 0, none⟩))).setCell ⟨p5, 0, none⟩ (.slice A7 (behindW rs m).length c7)).setCell ⟨p6, 0, none⟩ (.int .i64 0)) := (Fr.refl (fun k => k = p6) _).setCell (p := ⟨p6, 0, none⟩) (fun _ => rfl) _; have b46 := b45.of (hb6.block p4 b45.lt n46); have HQ4 := Lib.hid b4; have HQ5 := Lib.hid b45; have HQ6 := Lib.hid b46; clear l4 l5 l6 hg7 f7 b4 hb5 b45 hb6 b46))
          all_goals go_wp2_with fail
          obtain ⟨v8, hv8⟩ : ∃ v8, w7.setCell ⟨p4, 0, none⟩ (.pointer (some ⟨g, 0, none⟩)) = v8 := ⟨_, rfl⟩
          rw [hv8]
          obtain ⟨v9, hv9⟩ : ∃ v9, v8.setCell ⟨p5, 0, none⟩ (.slice A7 (behindW rs m).length c7) = v9 := ⟨_, rfl⟩
          rw [hv9]
          obtain ⟨wz, hwz⟩ : ∃ wz, v9.setCell ⟨p6, 0, none⟩ (.int .i64 0) = wz := ⟨_, rfl⟩
          rw [hwz]
          have g1 : Fr (fun k => k = p4) w7 v8 := by rw [← hv8]; exact (Fr.refl (fun k => k = p4) w7).setCell (p := ⟨p4, 0, none⟩) (fun _ => rfl) _
          have g2 : Fr (fun k => k = p5) v8 v9 := by rw [← hv9]; exact (Fr.refl (fun k => k = p5) v8).setCell (p := ⟨p5, 0, none⟩) (fun _ => rfl) _
          have g3 : Fr (fun k => k = p6) v9 wz := by rw [← hwz]; exact (Fr.refl (fun k => k = p6) v9).setCell (p := ⟨p6, 0, none⟩) (fun _ => rfl) _
          have a4 : Blk v8 p4 29 #[.pointer (some ⟨g, 0, none⟩)] := by rw [← hv8]; exact HL4.out.set_ 0 _
          have a5 := HL5'.out.of (g1.block p5 HL5'.out.lt (by omega))
          have a6 := HL6'.out.of (g1.block p6 HL6'.out.lt (by omega))
          have i5 : Blk v9 p5 43 #[.slice A7 (behindW rs m).length c7] := by rw [← hv9]; exact a5.set_ 0 _
          have i4 := a4.of (g2.block p4 a4.lt (by omega))
          have i6 := a6.of (g2.block p6 a6.lt (by omega))
          have j6 : Blk wz p6 39 #[.int .i64 0] := by rw [← hwz]; exact i6.set_ 0 _
          have j4 := i4.of (g3.block p4 i4.lt (by omega))
          have j5 := i5.of (g3.block p5 i5.lt (by omega))
          have o4 : wz.cell? ⟨p4, 0, none⟩ = some (.pointer (some ⟨g, 0, none⟩)) := j4.cell 0
          have o5 : wz.cell? ⟨p5, 0, none⟩ = some (.slice A7 (behindW rs m).length c7) := j5.cell 0
          have o6 : wz.cell? ⟨p6, 0, none⟩ = some (.int .i64 0) := j6.cell 0
          have fz : Fr (fun k => k = p4 ∨ k = p5 ∨ k = p6) w7 wz := ((g1.mono fun k _ hk => .inl hk).trans (g2.mono fun k _ hk => .inr (.inl hk)) fun _ _ h => h).trans (g3.mono fun k _ hk => .inr (.inr hk)) fun _ _ h => h
          have hbase : ∀ k, (Value.slice A7 (behindW rs m).length c7).ownBlock = some k → w6.heap.size ≤ k ∧ k < w7.heap.size := fun k hk => HG7.out.lt k hk
          have hp6 : p6 < w6.heap.size := HK66.out.lt
          have hlz7 : Lg w7 (fun k => X1 k ∨ (Value.slice A7 (behindW rs m).length c7).ownBlock = some k) d g N (mendW S L torn).1 { L with last := lst, firm := lst } := HL6.out.grow HF7.out (fun k hk => hk.elim) (fun k hk => .inl hk) fun k hk => by
            rcases hk with hk | hk
            · exact ⟨Nat.lt_of_lt_of_le (HL6.out.base k hk) HF7.out.size, .inl hk⟩
            · exact ⟨(hbase k hk).2, .inr (hbase k hk).1⟩
          have hlz : Lg wz (fun k => X1 k ∨ (Value.slice A7 (behindW rs m).length c7).ownBlock = some k) d g N (mendW S L torn).1 { L with last := lst, firm := lst } := hlz7.grow fz (fun k hk => by
            rcases hk with hk | hk | hk
            · rw [hk]; exact ⟨.inl HP4X.out, by omega⟩
            · rw [hk]; exact ⟨.inl HP5X.out, by omega⟩
            · rw [hk]; exact ⟨.inl HP6X.out, by omega⟩) (fun k hk => hk) fun k hk => ⟨Nat.lt_of_lt_of_le (hlz7.base k hk) fz.size, .inl hk⟩
          have f26 : w2.heap.size ≤ w6.heap.size := HFX6.out.size
          have hsz : w.heap.size ≤ w6.heap.size := Nat.le_trans HFC.out.size (Nat.le_trans H4.out.size (Nat.le_trans F2.out.size f26))
          have hgz : Grow w.heap.size 52 2 recG wz (.slice A7 (behindW rs m).length c7) (behindW rs m) := ((show Grow w6.heap.size 52 2 recG w7 _ _ from HG7.out).down hsz).keepG fz fun k hk hp => by
            have := (hbase k hk).1
            omega
          clear n45 n46 n56
          refine leaves_cons (f := 50) (args := #[.pointer (some ⟨p4, 0, none⟩), .pointer (some ⟨p5, 0, none⟩), .pointer (some ⟨p6, 0, none⟩)]) (by simp) (by simp [go_sem]) ?_
          refine (opener_idle p4 p5 p6 wz).mono ?_
          rintro e u' wz' ⟨rfl, rfl, rfl⟩
          refine ⟨.tuple #[.pointer (some ⟨g, 0, none⟩), .slice A7 (behindW rs m).length c7, .int .i64 0], by simp [results, Tryz.results19, go_sem, o4, o5, o6], fun x hx => ?_, fun n' hx => ?_, hlz.vr, ?_⟩
          · rw [HOP2.out, HLST.out] at hx
            cases hx
            exact ⟨g, A7, c7, _, rfl, fun k hk => .inl (HX01.out k ((HX0.out k).2 (.inl hk))), hlz, hgz, fun k hk => .inr hk, HGL.out⟩
          · rw [HOP2.out] at hx; exact nomatch hx
          · refine ((((HFC.out.any.trans H4.out fun k _ hk hx => hk ((HX0.out k).2 (.inl hx))).trans F2.out fun _ _ hk => hk.elim).trans HFX6.out fun k _ hk hx => hk (HX01.out k ((HX0.out k).2 (.inl hx)))).trans HF7.out fun _ _ hk => hk.elim).trans fz fun k hk ho => ?_
            have := HP4.out
            omega
        · have t0 : decide (0 < rs.length) = true := decide_eq_true (by omega)
          have hzl : rs.length - 1 < rs.length := by omega
          have HG4 := Lib.hid (((HG1.out.keep recG_elem F2.out fun k hk => hk.elim).keepG HF3.out fun k hk hn => hn (HOWN.out k hk).1).keepG HS.out.2 fun k hk hn => hn (HOWN.out k hk).1)
          obtain ⟨gr, rfl, -, hgl, hcell⟩ := HG4.out.recAt (rs.length - 1) hzl
          have x7 := (hcell w4 rfl).1
          have hlq : 0 ≤ lastSeq rs ∧ lastSeq rs ≤ 9223372036854775807 := by
            rw [lastSeq_at rs hzl]
            have h1 := HGR.out rs[rs.length - 1] (List.getElem_mem _)
            exact ⟨by have := h1.2; omega, h1.1.1.2⟩
          rw [← lastSeq_at rs hzl] at x7
          obtain ⟨jj, hjj⟩ : ∃ jj, rs.length - 1 = jj := ⟨_, rfl⟩
          rw [hjj] at x7
          have hwk : IntKind.i64.wrap ((rs.length : Int) - 1) = (jj : Int) := by rw [show (rs.length : Int) - 1 = (jj : Int) by omega]; exact IntWalk.i64_in _ (by omega)
          have k1 : (0 : Int) ≤ (jj : Int) := by omega
          have k2 : (jj : Int) < (rs.length : Int) := by omega
          go_upto_region 13 with fail
          go_still_tail 9, (by kernel_rfl)
          change wpList _ _ _ _ _ (World.drew _)
          go_upto_region 14 with fail
          obtain ⟨w5, hw5⟩ : ∃ w5, (w4.setCell ⟨g, 2, none⟩ (.int .i64 (lastSeq rs))).drew = w5 := ⟨_, rfl⟩
          have hok4 := HS.out.1.ok
          have hS5 := HS.out.1.set 2 (.int .i64 (lastSeq rs)) { L with last := lastSeq rs } (fun _ => rfl) rfl ⟨hlq, hok4.firm, hok4.number, hok4.size, hok4.files⟩
          have HL5 : Hid (Lg w5 X1 d g N (mendW S L torn).1 { L with last := lastSeq rs }) := Lib.hid (by rw [← hw5]; exact hS5.1.keep ((Fr.refl No _).drew))
          have HF5 : Hid (Fr (fun k => ¬ X1 k) w4 w5) := Lib.hid (by rw [← hw5]; exact hS5.2.drew)
          rw [hw5]
          clear hS5 hok4 hw5 x7 hwk k1 k2 n2 n3 y2 y3 c44 hcell hgl
          obtain ⟨lst, hlst⟩ : ∃ lst, lastSeq rs = lst := ⟨_, rfl⟩
          have HLST : Hid ((if rs.length = 0 then m else lastSeq rs) = lst) := Lib.hid ((if_neg hz).trans hlst)
          rw [hlst] at HL5 hlq
          clear hlst t0 hzl
          have hz' := hz
          clear hz
          obtain ⟨fv5, z0, z1, z2, z3, z4, z5, z6, z7, z8⟩ := HL5.out.cells
          have n2 : w5.cell? ⟨g, 2, none⟩ = some (.int .i64 lst) := z2
          have n3 : w5.cell? ⟨g, 3, none⟩ = some (.int .i64 L.firm) := z3
          have y3 := HL5.out.frozen 3
          have fx4 : Fr (fun k => ¬ X1 k) w2 w5 := (HF3.out.thenX HS.out.2).thenX HF5.out
          have k5 := HE4.out.of (fx4.block p4 HE4.out.lt fun hn => hn HP4X.out)
          have c45 : w5.cell? ⟨p4, 0, none⟩ = some (.pointer (some ⟨g, 0, none⟩)) := k5.cell 0
          have HK5 := Lib.hid k5
          have HFX4 := Lib.hid fx4
          clear z0 z1 z2 z3 z4 z5 z6 z7 z8 fx4 k5
          go_still_tail 7, (by kernel_rfl)
          change wpList _ _ _ _ _ (World.drew _)
          go_upto_region 15 with fail
          obtain ⟨w6, hw6⟩ : ∃ w6, (w5.setCell ⟨g, 3, none⟩ (.int .i64 lst)).drew = w6 := ⟨_, rfl⟩
          have hok5 := HL5.out.ok
          have hS6 := HL5.out.set 3 (.int .i64 lst) { L with last := lst, firm := lst } (fun _ => rfl) rfl ⟨hok5.last, hlq, hok5.number, hok5.size, hok5.files⟩
          have HL6 : Hid (Lg w6 X1 d g N (mendW S L torn).1 { L with last := lst, firm := lst }) := Lib.hid (by rw [← hw6]; exact hS6.1.keep ((Fr.refl No _).drew))
          have f56 : Fr (fun k => ¬ X1 k) w5 w6 := by rw [← hw6]; exact hS6.2.drew
          have HG6 := Lib.hid ((HG4.out.keepG HF5.out fun k hk hn => hn (HOWN.out k hk).1).keepG f56 fun k hk hn => hn (HOWN.out k hk).1)
          have HK6 := Lib.hid (HK5.out.of (f56.block p4 HK5.out.lt fun hn => hn HP4X.out))
          have HFX6 := Lib.hid (HFX4.out.thenX f56)
          rw [hw6]
          clear hS6 hok5 hw6 f56 n2 n3 y3 c45
          have c46 : w6.cell? ⟨p4, 0, none⟩ = some (.pointer (some ⟨g, 0, none⟩)) := HK6.out.cell 0
          have d56 := HD5.out.of (((Fr.refl No w1).trans F2.out fun _ _ h => h).block p5 HD5.out.lt id)
          have d66 := HD6.out.of (((Fr.refl No w1).trans F2.out fun _ _ h => h).block p6 HD6.out.lt id)
          have HK56 := Lib.hid (d56.of (HFX6.out.block p5 d56.lt fun hn => hn HP5X.out))
          have HK66 := Lib.hid (d66.of (HFX6.out.block p6 d66.lt fun hn => hn HP6X.out))
          have HBH := Lib.hid (behind_any m (HG6.out.keep recG_elem ((Fr.refl No w6).drew) fun k hk => hk.elim) (by have := HLEN.out; omega) (fun r hr => (HGR.out r hr).1))
          clear d56 d66
          have n45 : p4 ≠ p5 := by omega
          have n46 : p4 ≠ p6 := by omega
          have n56 : p5 ≠ p6 := by omega
          have HK6D : Hid ((w6.drew).cell? ⟨p4, 0, none⟩ = some (.pointer (some ⟨g, 0, none⟩))) := Lib.hid ((HK6.out.of (((Fr.refl No w6).drew).block p4 HK6.out.lt id)).cell 0)
          go_region_held3 (fun w' => w'.cell? ⟨p4, 0, none⟩ = some (.pointer (some ⟨g, 0, none⟩)))
            (first | exact HL4.out.cell 0 | exact HK6D.out | exact HQ4.out.cell 0 | exact HQ5.out.cell 0 | exact HQ6.out.cell 0 | go_keep)
            (first | (go_at_call 56; refine HBH.out.mono ?_; rintro e w7 ⟨A7, c7, rfl, hg7, f7⟩; have HF7 := Lib.hid (((Fr.refl No w6).drew).trans f7 fun _ _ h => h); have HG7 := Lib.hid hg7; have l4 := HK6.out.of (HF7.out.block p4 HK6.out.lt id); have l5 := HK56.out.of (HF7.out.block p5 HK56.out.lt id); have l6 := HK66.out.of (HF7.out.block p6 HK66.out.lt id); have HL4 := Lib.hid l4; have HL5' := Lib.hid l5; have HL6' := Lib.hid l6; have v4 : w7.cell? ⟨p4, 0, none⟩ = some (.pointer (some ⟨g, 0, none⟩)) := l4.cell 0; have u4 := l4.frozen 0; have v5 : w7.cell? ⟨p5, 0, none⟩ = some (.slice none 0 0) := l5.cell 0; have u5 := l5.frozen 0; have v6 : w7.cell? ⟨p6, 0, none⟩ = some (.int .i64 0) := l6.cell 0; have u6 := l6.frozen 0; have b4 := l4.set_ 0 (.pointer (some ⟨g, 0, none⟩)); have hb5 : Fr (fun k => k = p5) (w7.setCell ⟨p4, 0, none⟩ (.pointer (some ⟨g, 0, none⟩))) ((w7.setCell ⟨p4, 0, none⟩ (.pointer (some ⟨g, 0, none⟩))).setCell ⟨p5, 0, none⟩ (.slice A7 (behindW rs m).length c7)) := (Fr.refl (fun k => k = p5) _).setCell (p := ⟨p5, 0, none⟩) (fun _ => rfl) _; have b45 := b4.of (hb5.block p4 b4.lt n45); have hb6 : Fr (fun k => k = p6) ((w7.setCell ⟨p4, 0, none⟩ (.pointer (some ⟨g, 0, none⟩))).setCell ⟨p5, 0, none⟩ (.slice A7 (behindW rs m).length c7)) (((w7.setCell ⟨p4, 0, none⟩ (.pointer (some ⟨g, 0, none⟩))).setCell ⟨p5, 0, none⟩ (.slice A7 (behindW rs m).length c7)).setCell ⟨p6, 0, none⟩ (.int .i64 0)) := (Fr.refl (fun k => k = p6) _).setCell (p := ⟨p6, 0, none⟩) (fun _ => rfl) _; have b46 := b45.of (hb6.block p4 b45.lt n46); have HQ4 := Lib.hid b4; have HQ5 := Lib.hid b45; have HQ6 := Lib.hid b46; clear l4 l5 l6 hg7 f7 b4 hb5 b45 hb6 b46))
          all_goals go_wp2_with fail
          obtain ⟨v8, hv8⟩ : ∃ v8, w7.setCell ⟨p4, 0, none⟩ (.pointer (some ⟨g, 0, none⟩)) = v8 := ⟨_, rfl⟩
          rw [hv8]
          obtain ⟨v9, hv9⟩ : ∃ v9, v8.setCell ⟨p5, 0, none⟩ (.slice A7 (behindW rs m).length c7) = v9 := ⟨_, rfl⟩
          rw [hv9]
          obtain ⟨wz, hwz⟩ : ∃ wz, v9.setCell ⟨p6, 0, none⟩ (.int .i64 0) = wz := ⟨_, rfl⟩
          rw [hwz]
          have g1 : Fr (fun k => k = p4) w7 v8 := by rw [← hv8]; exact (Fr.refl (fun k => k = p4) w7).setCell (p := ⟨p4, 0, none⟩) (fun _ => rfl) _
          have g2 : Fr (fun k => k = p5) v8 v9 := by rw [← hv9]; exact (Fr.refl (fun k => k = p5) v8).setCell (p := ⟨p5, 0, none⟩) (fun _ => rfl) _
          have g3 : Fr (fun k => k = p6) v9 wz := by rw [← hwz]; exact (Fr.refl (fun k => k = p6) v9).setCell (p := ⟨p6, 0, none⟩) (fun _ => rfl) _
          have a4 : Blk v8 p4 29 #[.pointer (some ⟨g, 0, none⟩)] := by rw [← hv8]; exact HL4.out.set_ 0 _
          have a5 := HL5'.out.of (g1.block p5 HL5'.out.lt (by omega))
          have a6 := HL6'.out.of (g1.block p6 HL6'.out.lt (by omega))
          have i5 : Blk v9 p5 43 #[.slice A7 (behindW rs m).length c7] := by rw [← hv9]; exact a5.set_ 0 _
          have i4 := a4.of (g2.block p4 a4.lt (by omega))
          have i6 := a6.of (g2.block p6 a6.lt (by omega))
          have j6 : Blk wz p6 39 #[.int .i64 0] := by rw [← hwz]; exact i6.set_ 0 _
          have j4 := i4.of (g3.block p4 i4.lt (by omega))
          have j5 := i5.of (g3.block p5 i5.lt (by omega))
          have o4 : wz.cell? ⟨p4, 0, none⟩ = some (.pointer (some ⟨g, 0, none⟩)) := j4.cell 0
          have o5 : wz.cell? ⟨p5, 0, none⟩ = some (.slice A7 (behindW rs m).length c7) := j5.cell 0
          have o6 : wz.cell? ⟨p6, 0, none⟩ = some (.int .i64 0) := j6.cell 0
          have fz : Fr (fun k => k = p4 ∨ k = p5 ∨ k = p6) w7 wz := ((g1.mono fun k _ hk => .inl hk).trans (g2.mono fun k _ hk => .inr (.inl hk)) fun _ _ h => h).trans (g3.mono fun k _ hk => .inr (.inr hk)) fun _ _ h => h
          have hbase : ∀ k, (Value.slice A7 (behindW rs m).length c7).ownBlock = some k → w6.heap.size ≤ k ∧ k < w7.heap.size := fun k hk => HG7.out.lt k hk
          have hp6 : p6 < w6.heap.size := HK66.out.lt
          have hlz7 : Lg w7 (fun k => X1 k ∨ (Value.slice A7 (behindW rs m).length c7).ownBlock = some k) d g N (mendW S L torn).1 { L with last := lst, firm := lst } := HL6.out.grow HF7.out (fun k hk => hk.elim) (fun k hk => .inl hk) fun k hk => by
            rcases hk with hk | hk
            · exact ⟨Nat.lt_of_lt_of_le (HL6.out.base k hk) HF7.out.size, .inl hk⟩
            · exact ⟨(hbase k hk).2, .inr (hbase k hk).1⟩
          have hlz : Lg wz (fun k => X1 k ∨ (Value.slice A7 (behindW rs m).length c7).ownBlock = some k) d g N (mendW S L torn).1 { L with last := lst, firm := lst } := hlz7.grow fz (fun k hk => by
            rcases hk with hk | hk | hk
            · rw [hk]; exact ⟨.inl HP4X.out, by omega⟩
            · rw [hk]; exact ⟨.inl HP5X.out, by omega⟩
            · rw [hk]; exact ⟨.inl HP6X.out, by omega⟩) (fun k hk => hk) fun k hk => ⟨Nat.lt_of_lt_of_le (hlz7.base k hk) fz.size, .inl hk⟩
          have f26 : w2.heap.size ≤ w6.heap.size := HFX6.out.size
          have hsz : w.heap.size ≤ w6.heap.size := Nat.le_trans HFC.out.size (Nat.le_trans H4.out.size (Nat.le_trans F2.out.size f26))
          have hgz : Grow w.heap.size 52 2 recG wz (.slice A7 (behindW rs m).length c7) (behindW rs m) := ((show Grow w6.heap.size 52 2 recG w7 _ _ from HG7.out).down hsz).keepG fz fun k hk hp => by
            have := (hbase k hk).1
            omega
          clear n45 n46 n56
          refine leaves_cons (f := 50) (args := #[.pointer (some ⟨p4, 0, none⟩), .pointer (some ⟨p5, 0, none⟩), .pointer (some ⟨p6, 0, none⟩)]) (by simp) (by simp [go_sem]) ?_
          refine (opener_idle p4 p5 p6 wz).mono ?_
          rintro e u' wz' ⟨rfl, rfl, rfl⟩
          refine ⟨.tuple #[.pointer (some ⟨g, 0, none⟩), .slice A7 (behindW rs m).length c7, .int .i64 0], by simp [results, Tryz.results19, go_sem, o4, o5, o6], fun x hx => ?_, fun n' hx => ?_, hlz.vr, ?_⟩
          · rw [HOP2.out, HLST.out] at hx
            cases hx
            exact ⟨g, A7, c7, _, rfl, fun k hk => .inl (HX01.out k ((HX0.out k).2 (.inl hk))), hlz, hgz, fun k hk => .inr hk, HGL.out⟩
          · rw [HOP2.out] at hx; exact nomatch hx
          · refine ((((HFC.out.any.trans H4.out fun k _ hk hx => hk ((HX0.out k).2 (.inl hx))).trans F2.out fun _ _ hk => hk.elim).trans HFX6.out fun k _ hk hx => hk (HX01.out k ((HX0.out k).2 (.inl hx)))).trans HF7.out fun _ _ hk => hk.elim).trans fz fun k hk ho => ?_
            have := HP4.out
            omega
      · have HOP2 : Hid (openW S m = .error (mendW S L torn).2) := Lib.hid (HOP.out.trans ((if_pos hf).trans (if_neg hmz)))
        have HOS2 : Hid (openS S m = (mendW S L torn).1) := Lib.hid (HOS.out.trans (if_pos hf))
        rw [hf]
        have HMN := mend_any torn (HLG1.out.keep F2.out)
        unfold gpt at HMN
        rw [mendE_no hmz] at HMN
        obtain ⟨SM, hSM⟩ : ∃ SM, (mendW S L torn).1 = SM := ⟨_, rfl⟩
        obtain ⟨E, hE⟩ : ∃ E, (mendW S L torn).2 = E := ⟨_, rfl⟩
        rw [hSM] at HMN HOS2
        rw [hE] at HMN HOP2
        have HMN := Lib.hid HMN
        have d4 := HD4.out.of (F2.out.block p4 HD4.out.lt id)
        have c4 : w2.cell? ⟨p4, 0, none⟩ = some (.pointer (some ⟨g, 0, none⟩)) := d4.cell 0
        have HE4 := Lib.hid d4
        have HE5 := Lib.hid (HD5.out.of (F2.out.block p5 HD5.out.lt id))
        have HE6 := Lib.hid (HD6.out.of (F2.out.block p6 HD6.out.lt id))
        clear hf hmz d4 hSM hE
        go_upto_region 9 with (refine (check_ok _).mono ?_; rintro e w' ⟨rfl, rfl⟩)
        go_wp2_with fail
        refine HMN.out.mono ?_
        rintro e w3 ⟨rfl, h3, f3⟩
        have p4x : X1 p4 := HX01.out p4 ((HX0.out p4).2 (.inr (.inl rfl)))
        have p5x : X1 p5 := HX01.out p5 ((HX0.out p5).2 (.inr (.inr (.inl rfl))))
        have p6x : X1 p6 := HX01.out p6 ((HX0.out p6).2 (.inr (.inr (.inr rfl))))
        have d4 := HE4.out.of (f3.block p4 HE4.out.lt fun hn => hn p4x)
        have d5 := HE5.out.of (f3.block p5 HE5.out.lt fun hn => hn p5x)
        have d6 := HE6.out.of (f3.block p6 HE6.out.lt fun hn => hn p6x)
        have H2' : Hid (Dk w3 X0 d N SM) := Lib.hid (h3.dk.less fun k hk => HX01.out k hk)
        have H3' : Hid (Vr w3) := Lib.hid h3.vr
        have H4' := Lib.hid ((H4.out.trans F2.out fun _ _ hk => hk.elim).trans f3 fun k _ hk hx => hk (HX01.out k hx))
        clear H2 H3 H4 h3 f3 HMN p4x p5x p6x c4
        have H2 := H2'
        have H3 := H3'
        have H4 := H4'
        clear H2' H3' H4'
        go_wp2_with fail
        have e4 : w3.cell? ⟨p4, 0, none⟩ = some (.pointer (some ⟨g, 0, none⟩)) := d4.cell 0
        have e5 : w3.cell? ⟨p5, 0, none⟩ = some (.slice none 0 0) := d5.cell 0
        have e6 : w3.cell? ⟨p6, 0, none⟩ = some (.int .i64 0) := d6.cell 0
        refine leaves_cons (f := 50) (args := #[.pointer (some ⟨p4, 0, none⟩), .pointer (some ⟨p5, 0, none⟩), .pointer (some ⟨p6, 0, none⟩)]) (by simp) (by simp [go_sem]) ?_
        refine (opener_caught p4 p5 p6 E [] w3 e4 e5 e6 (by omega) (by omega) (by omega) (d4.frozen 0) (d5.frozen 0) (d6.frozen 0)).mono ?_
        rintro e u' wz ⟨rfl, rfl, hwz⟩
        have fz : Fr (fun k => k = p4 ∨ k = p5 ∨ k = p6) w3 wz := by
          rw [hwz]
          exact (((Fr.refl (fun k => k = p4 ∨ k = p5 ∨ k = p6) w3).setCell (p := ⟨p4, 0, none⟩) (fun _ => .inl rfl) _).setCell (p := ⟨p5, 0, none⟩) (fun _ => .inr (.inl rfl)) _).setCell (p := ⟨p6, 0, none⟩) (fun _ => .inr (.inr rfl)) _
        have g1 : Fr (fun k => k = p4) w3 (w3.setCell ⟨p4, 0, none⟩ (.pointer none)) := (Fr.refl (fun k => k = p4) w3).setCell (p := ⟨p4, 0, none⟩) (fun _ => rfl) _
        have a4 : Blk (w3.setCell ⟨p4, 0, none⟩ (.pointer none)) p4 29 #[.pointer none] := d4.set_ 0 _
        have a5 := d5.of (g1.block p5 d5.lt (by omega))
        have a6 := d6.of (g1.block p6 d6.lt (by omega))
        obtain ⟨v1, hv1⟩ : ∃ v1, w3.setCell ⟨p4, 0, none⟩ (.pointer none) = v1 := ⟨_, rfl⟩
        rw [hv1] at hwz a4 a5 a6
        have g2 : Fr (fun k => k = p5) v1 (v1.setCell ⟨p5, 0, none⟩ (.slice none 0 0)) := (Fr.refl (fun k => k = p5) v1).setCell (p := ⟨p5, 0, none⟩) (fun _ => rfl) _
        have i5 : Blk (v1.setCell ⟨p5, 0, none⟩ (.slice none 0 0)) p5 43 #[.slice none 0 0] := a5.set_ 0 _
        have i4 := a4.of (g2.block p4 a4.lt (by omega))
        have i6 := a6.of (g2.block p6 a6.lt (by omega))
        obtain ⟨v2, hv2⟩ : ∃ v2, v1.setCell ⟨p5, 0, none⟩ (.slice none 0 0) = v2 := ⟨_, rfl⟩
        rw [hv2] at hwz i4 i5 i6
        have g3 : Fr (fun k => k = p6) v2 (v2.setCell ⟨p6, 0, none⟩ (.int .i64 E)) := (Fr.refl (fun k => k = p6) v2).setCell (p := ⟨p6, 0, none⟩) (fun _ => rfl) _
        have j6 : Blk (v2.setCell ⟨p6, 0, none⟩ (.int .i64 E)) p6 39 #[.int .i64 E] := i6.set_ 0 _
        have j4 := i4.of (g3.block p4 i4.lt (by omega))
        have j5 := i5.of (g3.block p5 i5.lt (by omega))
        rw [← hwz] at j4 j5 j6
        have o4 : wz.cell? ⟨p4, 0, none⟩ = some (.pointer none) := j4.cell 0
        have o5 : wz.cell? ⟨p5, 0, none⟩ = some (.slice none 0 0) := j5.cell 0
        have o6 : wz.cell? ⟨p6, 0, none⟩ = some (.int .i64 E) := j6.cell 0
        refine ⟨.tuple #[.pointer none, .slice none 0 0, .int .i64 E], by simp [results, Tryz.results19, go_sem, o4, o5, o6], fun x hx => ?_, fun n' hx => ?_, ?_, ?_⟩
        · rw [HOP2.out] at hx; exact nomatch hx
        · rw [HOP2.out] at hx
          cases hx
          rw [HOS2.out]
          refine ⟨rfl, (H2.out.side (fz.mono fun k _ hk => (HX0.out k).2 (.inr hk))).less fun k hk => (HX0.out k).2 (.inl hk)⟩
        · exact H3.out.of fun k hk => fz.block k (by have := H3.out.lt; omega) (by omega)
        · refine ((HFC.out.any.trans H4.out fun k _ hk hx => hk ((HX0.out k).2 (.inl hx))).trans fz fun k hk ho => ?_)
          have := HP4.out
          omega
    · have hf0 : fitsW rs m = false := by simpa using hf
      have HOP2 : Hid (openW S m = .error 24) := Lib.hid (HOP.out.trans (if_neg hf))
      have HOS2 : Hid (openS S m = S) := Lib.hid (HOS.out.trans (if_neg hf))
      rw [hf0]
      have d4 := HD4.out.of (F2.out.block p4 HD4.out.lt id)
      have d5 := HD5.out.of (F2.out.block p5 HD5.out.lt id)
      have d6 := HD6.out.of (F2.out.block p6 HD6.out.lt id)
      have H2' := Lib.hid (H2.out.keep F2.out)
      have H3' := Lib.hid (H3.out.keep F2.out)
      have H4' := Lib.hid (H4.out.trans F2.out fun _ _ hk => hk.elim)
      clear hf hf0 H2 H3 H4
      have H2 := H2'
      have H3 := H3'
      have H4 := H4'
      clear H2' H3' H4'
      go_wp2_with fail
      refine (check_no _).mono ?_
      rintro e w' ⟨rfl, rfl⟩
      go_wp2_with fail
      have e4 : w2.cell? ⟨p4, 0, none⟩ = some (.pointer (some ⟨g, 0, none⟩)) := d4.cell 0
      have e5 : w2.cell? ⟨p5, 0, none⟩ = some (.slice none 0 0) := d5.cell 0
      have e6 : w2.cell? ⟨p6, 0, none⟩ = some (.int .i64 0) := d6.cell 0
      refine leaves_cons (f := 50) (args := #[.pointer (some ⟨p4, 0, none⟩), .pointer (some ⟨p5, 0, none⟩), .pointer (some ⟨p6, 0, none⟩)]) (by simp) (by simp [go_sem]) ?_
      refine (opener_caught p4 p5 p6 24 [] w2 e4 e5 e6 (by omega) (by omega) (by omega) (d4.frozen 0) (d5.frozen 0) (d6.frozen 0)).mono ?_
      rintro e u' wz ⟨rfl, rfl, hwz⟩
      have fz : Fr (fun k => k = p4 ∨ k = p5 ∨ k = p6) w2 wz := by
        rw [hwz]
        exact (((Fr.refl (fun k => k = p4 ∨ k = p5 ∨ k = p6) w2).setCell (p := ⟨p4, 0, none⟩) (fun _ => .inl rfl) _).setCell (p := ⟨p5, 0, none⟩) (fun _ => .inr (.inl rfl)) _).setCell (p := ⟨p6, 0, none⟩) (fun _ => .inr (.inr rfl)) _
      have g1 : Fr (fun k => k = p4) w2 (w2.setCell ⟨p4, 0, none⟩ (.pointer none)) := (Fr.refl (fun k => k = p4) w2).setCell (p := ⟨p4, 0, none⟩) (fun _ => rfl) _
      have a4 : Blk (w2.setCell ⟨p4, 0, none⟩ (.pointer none)) p4 29 #[.pointer none] := d4.set_ 0 _
      have a5 := d5.of (g1.block p5 d5.lt (by omega))
      have a6 := d6.of (g1.block p6 d6.lt (by omega))
      obtain ⟨v1, hv1⟩ : ∃ v1, w2.setCell ⟨p4, 0, none⟩ (.pointer none) = v1 := ⟨_, rfl⟩
      rw [hv1] at hwz a4 a5 a6
      have g2 : Fr (fun k => k = p5) v1 (v1.setCell ⟨p5, 0, none⟩ (.slice none 0 0)) := (Fr.refl (fun k => k = p5) v1).setCell (p := ⟨p5, 0, none⟩) (fun _ => rfl) _
      have i5 : Blk (v1.setCell ⟨p5, 0, none⟩ (.slice none 0 0)) p5 43 #[.slice none 0 0] := a5.set_ 0 _
      have i4 := a4.of (g2.block p4 a4.lt (by omega))
      have i6 := a6.of (g2.block p6 a6.lt (by omega))
      obtain ⟨v2, hv2⟩ : ∃ v2, v1.setCell ⟨p5, 0, none⟩ (.slice none 0 0) = v2 := ⟨_, rfl⟩
      rw [hv2] at hwz i4 i5 i6
      have g3 : Fr (fun k => k = p6) v2 (v2.setCell ⟨p6, 0, none⟩ (.int .i64 24)) := (Fr.refl (fun k => k = p6) v2).setCell (p := ⟨p6, 0, none⟩) (fun _ => rfl) _
      have j6 : Blk (v2.setCell ⟨p6, 0, none⟩ (.int .i64 24)) p6 39 #[.int .i64 24] := i6.set_ 0 _
      have j4 := i4.of (g3.block p4 i4.lt (by omega))
      have j5 := i5.of (g3.block p5 i5.lt (by omega))
      rw [← hwz] at j4 j5 j6
      have o4 : wz.cell? ⟨p4, 0, none⟩ = some (.pointer none) := j4.cell 0
      have o5 : wz.cell? ⟨p5, 0, none⟩ = some (.slice none 0 0) := j5.cell 0
      have o6 : wz.cell? ⟨p6, 0, none⟩ = some (.int .i64 24) := j6.cell 0
      refine ⟨.tuple #[.pointer none, .slice none 0 0, .int .i64 24], by simp [results, Tryz.results19, go_sem, o4, o5, o6], fun x hx => ?_, fun n' hx => ?_, ?_, ?_⟩
      · rw [HOP2.out] at hx; exact nomatch hx
      · rw [HOP2.out] at hx
        cases hx
        rw [HOS2.out]
        refine ⟨rfl, (H2.out.side (fz.mono fun k _ hk => (HX0.out k).2 (.inr hk))).less fun k hk => (HX0.out k).2 (.inl hk)⟩
      · exact H3.out.of fun k hk => fz.block k (by have := H3.out.lt; omega) (by omega)
      · refine ((HFC.out.any.trans H4.out fun k _ hk hx => hk ((HX0.out k).2 (.inl hx))).trans fz fun k hk ho => ?_)
        have := HP4.out
        omega
end Go.Proofs.YtccjkolcmdhliaaGreatDoor
/- What awake comes to, plain. -/
namespace Go.Proofs.YtccjkolcmdhliaaGreatDoor
open Go.RowKit Go.Maps
set_option linter.unusedVariables false

def aw0 : AS := AS.new 10000
def aw1 : AS × LS × Int × Int := appendL aw0 L0 [97]
def aw2 : AS × LS × Int × Int := appendL aw1.1 aw1.2.1 [98]
def aw3 : AS × LS × Int := syncL aw2.1 aw2.2.1
def aw4 : AS × LS × Int × Int := appendL aw3.1 aw3.2.1 [99]
def aw5 : AS := aw4.1.crashed []
theorem aw1_e : aw1.2.2 = (1, 0) := by kernel_rfl
theorem aw2_e : aw2.2.2 = (2, 0) := by kernel_rfl
theorem aw3_e : aw3.2.2 = 0 := by kernel_rfl
theorem aw4_e : aw4.2.2 = (3, 0) := by kernel_rfl
theorem aw4_l : aw4.2.1.last = 3 ∧ aw4.2.1.firm = 2 := ⟨by kernel_rfl, by kernel_rfl⟩
theorem aw0_names : strKeys aw0.names = [] := by kernel_rfl
theorem aw5_names : strKeys aw5.names = [nameW 1] := by kernel_rfl
theorem aw5_on : aw5.on = true := by kernel_rfl
theorem aw_num : numW (nameW 1) = 1 := by kernel_rfl
theorem aw0_keys : sortedKeys aw0.names = [] := by unfold sortedKeys; rw [aw0_names]; simp
theorem aw5_keys : sortedKeys aw5.names = [nameW 1] := by unfold sortedKeys; rw [aw5_names]; simp
theorem aw0_segs : segsW (sortedKeys aw0.names) = [] := by rw [aw0_keys]; rfl
theorem aw5_segs : segsW (sortedKeys aw5.names) = [1] := by rw [aw5_keys]; unfold segsW; simp [aw_num]
def aw5_l : Except Int LdP := loadW aw5 true ([], L0, false) [1]
theorem aw5_load : (match aw5_l with | .ok x => some (x.1.map fun r => (r.seq, r.data), x.2.2) | .error _ => none) = some ([(1, [97]), (2, [98])], false) := by kernel_rfl
end Go.Proofs.YtccjkolcmdhliaaGreatDoor
/- awake, walked. -/
namespace Go.Proofs.YtccjkolcmdhliaaGreatDoor
open Go.RowKit Go.Maps
set_option linter.unusedVariables false

theorem aw0_open : openW aw0 0 = .ok (aw0, L0, []) := by
  unfold openW
  rw [aw0_segs]
  kernel_rfl
theorem aw0_mz : (mendW aw0 L0 false).2 = 0 := by kernel_rfl
theorem aw0_mend : ∀ rs L torn, loadW aw0 true ([], L0, false) (segsW (sortedKeys aw0.names)) = .ok (rs, L, torn) → fitsW rs 0 = true → (mendW aw0 L torn).2 = 0 := by
  rw [aw0_segs]
  intro rs L torn h _
  have h1 : (.ok ([], L0, false) : Except Int LdP) = .ok (rs, L, torn) := h
  cases h1
  exact aw0_mz
theorem aw5_told : (match openR aw5 0 aw5_l with | .ok x => some (x.2.2.map fun r => (r.seq, r.data)) | .error _ => none) = some [(1, [97]), (2, [98])] := by kernel_rfl
theorem aw5_open : ∃ S' L', openW aw5 0 = .ok (S', L', [⟨1, [97]⟩, ⟨2, [98]⟩]) := by
  have h := aw5_told
  have e : openW aw5 0 = openR aw5 0 aw5_l := by unfold openW aw5_l; rw [aw5_segs]
  cases hr : openR aw5 0 aw5_l with
  | error n => rw [hr] at h; exact nomatch h
  | ok x =>
    obtain ⟨S', L', rs⟩ := x
    rw [hr] at h
    have h2 : rs.map (fun r => (r.seq, r.data)) = [(1, [97]), (2, [98])] := Option.some.inj h
    refine ⟨S', L', ?_⟩
    rw [e, hr]
    have h3 : rs = [⟨1, [97]⟩, ⟨2, [98]⟩] := by
      rcases rs with _ | ⟨⟨a1, a2⟩, _ | ⟨⟨b1, b2⟩, _ | ⟨c, t⟩⟩⟩
      · simp at h2
      · simp at h2
      · simp at h2
        obtain ⟨⟨rfl, rfl⟩, rfl, rfl⟩ := h2
        rfl
      · simp at h2
    rw [h3]
theorem aw5_mz : (match aw5_l with | .ok x => (mendW aw5 x.2.1 x.2.2).2 | .error _ => 0) = 0 := by kernel_rfl
theorem aw5_mend : ∀ rs L torn, loadW aw5 true ([], L0, false) (segsW (sortedKeys aw5.names)) = .ok (rs, L, torn) → fitsW rs 0 = true → (mendW aw5 L torn).2 = 0 := by
  rw [aw5_segs]
  intro rs L torn h _
  have h1 := aw5_mz
  unfold aw5_l at h1
  rw [h] at h1
  exact h1
theorem name1 : nameW 1 = [119, 97, 108, 45, 48, 48, 48, 48, 48, 48, 48, 49] := by kernel_rfl
theorem aw0_on : aw0.on = true := by kernel_rfl
set_option maxRecDepth 100000 in
set_option maxHeartbeats 4000000 in
theorem awake_any (w : World) (hv : Vr w) : Calls Tryz.prog 10 #[] w fun e w' => e = .returned (.bool true) ∧ Vr w' ∧ Below w.heap.size w w' := by
  obtain ⟨X, hX⟩ : ∃ X : Nat → Prop, (fun k => k < w.heap.size) = X := ⟨_, rfl⟩
  have HX : Hid (∀ k, X k ↔ k < w.heap.size) := Lib.hid fun k => by rw [← hX]
  have hlo : ∀ k, k < 4 → X k := fun k hk => (HX.out k).2 (by have := hv.lt; omega)
  have HLO := Lib.hid hlo
  have HV := Lib.hid hv
  clear hX hlo hv
  go_enter Tryz.func10, Tryz.ntmps10
  go_wp2_with fail
  refine (x_new 10000 w X fun k hk => (HX.out k).1 hk).mono ?_
  rintro e w1 ⟨d, rfl, h1, f1⟩
  have H1 := Lib.hid (show Dk w1 X d 0 aw0 from h1)
  have HV1 := Lib.hid (HV.out.keep f1)
  have HF1 : Hid (Fr (fun k => ¬ X k) w w1) := Lib.hid f1.any
  have HO1 := Lib.hid (open_on 0 H1.out HV1.out HLO.out (by omega) aw0_on (by omega) (by omega))
  unfold dkp at HO1
  clear h1 f1
  go_wp2_with fail
  refine HO1.out.mono ?_
  rintro e w2 ⟨ho, -, hv2, hf2⟩
  obtain ⟨g, A, c, X1, rfl, hx1, hl2, hg2, hown, -⟩ := ho _ aw0_open
  have HL2 := Lib.hid (show Lg w2 X d g 0 aw0 L0 from hl2.less hx1 HLO.out)
  have HF2 := Lib.hid (HF1.out.thenX hf2)
  clear ho hv2 hf2 hx1 hl2 hg2 hown HO1 HF1 H1 HV1
  unfold gpt
  go_wp2_with fail
  refine (append_any HL2.out (by omega) [97] (by decide)).mono ?_
  rintro e w3 ⟨rfl, h3, f3⟩
  rw [show (appendL aw0 L0 [97]).2.2.1 = 1 from congrArg Prod.fst aw1_e, show (appendL aw0 L0 [97]).2.2.2 = 0 from congrArg Prod.snd aw1_e]
  have HL3 := Lib.hid (show Lg w3 X d g 2 aw1.1 aw1.2.1 from h3)
  have HF3 := Lib.hid (HF2.out.thenX f3)
  clear h3 f3 HL2 HF2
  go_wp2_with fail
  refine (append_any HL3.out (by omega) [98] (by decide)).mono ?_
  rintro e w4 ⟨rfl, h4, f4⟩
  rw [show (appendL aw1.1 aw1.2.1 [98]).2.2.1 = 2 from congrArg Prod.fst aw2_e, show (appendL aw1.1 aw1.2.1 [98]).2.2.2 = 0 from congrArg Prod.snd aw2_e]
  have HL4 := Lib.hid (show Lg w4 X d g 4 aw2.1 aw2.2.1 from h4)
  have HF4 := Lib.hid (HF3.out.thenX f4)
  clear h4 f4 HL3 HF3
  go_wp2_with fail
  refine (syncL_any HL4.out).mono ?_
  rintro e w5 ⟨rfl, h5, f5⟩
  rw [show (syncL aw2.1 aw2.2.1).2.2 = 0 from aw3_e]
  have HL5 := Lib.hid (show Lg w5 X d g 4 aw3.1 aw3.2.1 from h5)
  have HF5 := Lib.hid (HF4.out.thenX f5)
  clear h5 f5 HL4 HF4
  go_wp2_with fail
  refine (append_any HL5.out (by omega) [99] (by decide)).mono ?_
  rintro e w6 ⟨rfl, h6, f6⟩
  rw [show (appendL aw3.1 aw3.2.1 [99]).2.2.1 = 3 from congrArg Prod.fst aw4_e, show (appendL aw3.1 aw3.2.1 [99]).2.2.2 = 0 from congrArg Prod.snd aw4_e]
  have HL6 := Lib.hid (show Lg w6 X d g 6 aw4.1 aw4.2.1 from h6)
  have HF6 := Lib.hid (HF5.out.thenX f6)
  clear h6 f6 HL5 HF5
  have HLA := Lib.hid (last_any HL6.out)
  have HFI := Lib.hid (firm_any HL6.out)
  rw [aw4_l.1] at HLA
  rw [aw4_l.2] at HFI
  unfold gpt at HLA HFI
  go_wp2_with (first | (go_at_call 16; refine HLA.out.mono ?_; rintro e w' ⟨rfl, rfl⟩) | (go_at_call 17; refine HFI.out.mono ?_; rintro e w' ⟨rfl, rfl⟩))
  have HD6 := Lib.hid HL6.out.dk
  have HV6 := Lib.hid HL6.out.vr
  clear HLA HFI HL6
  refine (x_crash HD6.out 0 none 0 0 [] ⟨rfl, by omega, by simp, fun h => absurd h (by omega)⟩ fun h => absurd h (by omega)).mono ?_
  rintro e w7 ⟨rfl, h7, f7⟩
  have HD7 := Lib.hid (show Dk w7 X d 6 aw5 from h7)
  have HV7 := Lib.hid (HV6.out.x HLO.out f7)
  have HF7 := Lib.hid (HF6.out.thenX f7)
  have HO7 := Lib.hid (open_on 0 HD7.out HV7.out HLO.out (by omega) aw5_on (by omega) (by omega))
  unfold dkp at HO7
  clear h7 f7 HF6 HD6 HV6
  go_wp2_with fail
  refine HO7.out.mono ?_
  rintro e w8 ⟨ho, -, hv8, hf8⟩
  obtain ⟨S', L', h5o⟩ := aw5_open
  obtain ⟨g2, A, c, X1, rfl, hx1, hl8, hg8, hown, -⟩ := ho _ h5o
  obtain ⟨gt, rfl, -, -, hcell⟩ := hg8.recAt 1 (by simp)
  obtain ⟨x0, x1⟩ := hcell w8 rfl
  have HN := Lib.hid (name_any 1 w8 hv8 (by omega) (by omega))
  rw [name1] at HN
  have HV8 := Lib.hid hv8
  have HF8 := Lib.hid (HF7.out.thenX hf8)
  clear ho hv8 hf8 hx1 hl8 hg8 hown HO7 HF7 HD7 HV7 hcell h5o
  simp only [List.getElem_cons_succ, List.getElem_cons_zero, Nat.one_mul] at x0 x1
  unfold gpt
  go_wp2_with (go_at_call 28; refine HN.out.mono ?_; rintro e w9 ⟨rfl, f9⟩)
  go_ret
  have hf9 : Fr (fun k => ¬ X k) w w9 := HF8.out.trans f9 fun _ _ hk => hk.elim
  exact ⟨rfl, HV8.out.keep f9, hf9.below_of (Nat.le_refl _) fun k hk => by have := mt (HX.out k).2 hk; omega⟩
end Go.Proofs.YtccjkolcmdhliaaGreatDoor
/- The document's Name and Record; WalNames, walked. -/
namespace Go.Proofs.YtccjkolcmdhliaaGreatDoor
open Go.RowKit Go.Maps
set_option linter.unusedVariables false

def lenOf : Value → Nat
  | .string b => b.size
  | _ => 0
set_option maxRecDepth 100000 in
set_option maxHeartbeats 1000000 in
theorem rname_any (n : Int) (w : World) (hv : Vr w) (h0 : -9223372036854775808 ≤ n) (h1 : n ≤ 9223372036854775807) :
    Calls Tryz.prog 34 #[.int .i64 n] w fun e w' => e = .returned (sv (nameW n)) ∧ Fr No w w' := by
  by_cases hlo : n < 1
  · have HV : Hid (nameW n = []) := Lib.hid (by unfold nameW; rw [if_pos (.inl hlo)])
    have hlt : decide (n < 1) = true := by simpa using hlo
    go_enter Tryz.func34, Tryz.ntmps34
    go_wp2
    go_ret
    exact ⟨by rw [HV.out]; rfl, Fr.refl _ _⟩
  · have hge : 1 ≤ n := by omega
    have hlt : decide (n < 1) = false := by simpa using hge
    by_cases hhi : 99999999 < n
    · have HV : Hid (nameW n = []) := Lib.hid (by unfold nameW; rw [if_pos (.inr hhi)])
      have hgt : decide (99999999 < n) = true := by simpa using hhi
      go_enter Tryz.func34, Tryz.ntmps34
      go_wp2
      go_ret
      exact ⟨by rw [HV.out]; rfl, Fr.refl _ _⟩
    · have hle : n ≤ 99999999 := by omega
      have hgt : decide (99999999 < n) = false := by simpa using hle
      have HV : Hid (nameW n = ([119, 97, 108, 45] ++ Lib.repeatL [48] (8 - (Lib.itoa n).length)) ++ Lib.itoa n) := Lib.hid (by unfold nameW; rw [if_neg (by omega)])
      have hd := digits8 hge hle
      have HI := Lib.hid (itoa_any n w hv h0 h1)
      obtain ⟨l, hl⟩ : ∃ l, Lib.itoa n = l := ⟨_, rfl⟩
      rw [hl] at HI hd HV
      clear hl hv
      go_enter Tryz.func34, Tryz.ntmps34
      go_wp2_with fail
      refine HI.out.mono ?_
      rintro e w1 ⟨rfl, f1⟩
      have F1 := Lib.hid f1
      clear f1
      go_wp2_with fail
      go_loopw [3] (fun v wr => ∃ (k : Nat) (x : List UInt8), v = sv x ∧ x = Lib.repeatL [48] k ++ l ∧ k + l.length ≤ 8 ∧ wr = w1) (fun v _ => 8 - lenOf v)
      case atStart => exact ⟨0, l, rfl, rfl, by omega, rfl⟩
      case round =>
        obtain ⟨k, x, rfl, hx, hk, rfl⟩ := hrel
        have hxl : x.length = k + l.length := by rw [hx, List.length_append, Lib.repeatL_length]; simp
        have q1 := fun w' => run_cat [48] x (by simp; omega) w'
        have HX := Lib.hid hx
        clear hx
        by_cases hlt : x.length < 8
        · have t0 : decide (x.length < 8) = true := by simpa using hlt
          have t1 : decide ((x.length : Int) < 8) = true := by simp; omega
          go_wp2
          exact ⟨⟨k + 1, 48 :: x, rfl, by rw [HX.out]; rfl, by omega, trivial⟩, by simp [lenOf, ByteArray.size]; omega⟩
        · have t0 : decide (x.length < 8) = false := by simpa using hlt
          have t1 : decide ((x.length : Int) < 8) = false := by simp; omega
          have q2 := fun w' => run_cat [119, 97, 108, 45] x (by simp; omega) w'
          go_wp2
          go_ret
          refine ⟨?_, F1.out⟩
          rw [HV.out, HX.out, show 8 - l.length = k by omega]
          simp
set_option maxRecDepth 100000 in
set_option maxHeartbeats 1000000 in
theorem rrec_any (seq : Int) (d : List UInt8) (w : World) (h0 : -9223372036854775808 ≤ seq) (h1 : seq ≤ 9223372036854775807) (hd : d.length ≤ 4294967295) :
    Calls Tryz.prog 33 #[.int .i64 seq, sv d] w fun e w' => e = .returned (.tuple #[sv (recB seq d).1, .int .i64 (recB seq d).2]) ∧ Fr No w w' := by
  obtain ⟨N, hN⟩ : ∃ N, (seq % 18446744073709551616).toNat = N := ⟨_, rfl⟩
  have hw : IntKind.u64.wrap seq = (N : Int) := by rw [IntKind.wrap_u64]; omega
  have hNl : N < 2 ^ 64 := by omega
  have HN1 : Hid (Calls Tryz.prog 92 #[.int .u64 (N : Int), .int .i64 8] w (Low N 8 w)) := Lib.hid (Num_any N 8 w hNl (by omega))
  have HN2 : Hid (∀ w, Calls Tryz.prog 92 #[.int .u64 (d.length : Int), .int .i64 4] w (Low d.length 4 w)) := Lib.hid fun w => Num_any _ 4 w (by omega) (by omega)
  have HB : Hid (body seq d = (low N 8 ++ low d.length 4) ++ d) := Lib.hid (by unfold body enc8; rw [hN, List.append_assoc])
  have hb := body_len seq d
  rw [HB.out] at hb
  have HR : Hid (recB seq d = if d.length ≤ 65524 then (frameR (body seq d), 0) else ([], 23)) := Lib.hid rfl
  rw [HB.out] at HR
  have l1 := low_len 8 N
  have l2 := low_len 4 d.length
  obtain ⟨x, hx⟩ : ∃ x, low N 8 = x := ⟨_, rfl⟩
  obtain ⟨y, hy⟩ : ∃ y, low d.length 4 = y := ⟨_, rfl⟩
  unfold Low at HN1 HN2
  rw [hx] at HR HN1 hb l1
  rw [hy] at HR HN2 hb l2
  have q1 := fun w' => run_cat x y (by omega) w'
  obtain ⟨xy, hxy⟩ : ∃ xy, x ++ y = xy := ⟨_, rfl⟩
  rw [hxy] at HR hb q1
  have hxl : xy.length ≤ 12 := by rw [← hxy, List.length_append]; omega
  have q2 := fun w' => run_cat xy d (by omega) w'
  obtain ⟨z, hz⟩ : ∃ z, xy ++ d = z := ⟨_, rfl⟩
  rw [hz] at HR hb q2
  have HF : Hid (∀ w, Calls Tryz.prog 93 #[sv z] w (Framed z w)) := Lib.hid fun w => rframe_any z w (by unfold maxLen; omega)
  unfold Framed at HF
  have hu2 : IntKind.u64.wrap (d.length : Int) = (d.length : Int) := by rw [IntKind.wrap_u64]; omega
  clear HB hx hy hxy hz hN
  go_enter Tryz.func33, Tryz.ntmps33
  go_wp2_with fail
  refine HN1.out.mono ?_
  rintro e w1 ⟨rfl, f1⟩
  have F1 := Lib.hid (Fr.of_below f1)
  clear f1 HN1
  go_wp2_with fail
  refine (HN2.out w1).mono ?_
  rintro e w2 ⟨rfl, f2⟩
  have F2 := Lib.hid (F1.out.trans (Fr.of_below f2) fun _ _ h => h)
  clear f2 HN2 F1
  go_wp2_with fail
  refine (HF.out w2).mono ?_
  rintro e w3 ⟨rfl, f3⟩
  have F3 := Lib.hid (F2.out.trans (Fr.of_below f3) fun _ _ h => h)
  clear f3 HF F2
  by_cases hs : d.length ≤ 65524
  · rw [if_pos hs] at HR
    rw [frameV_ok (by omega)]
    go_wp2
    refine bodyPost_ret (v := .tuple #[sv (frameR z), .int .i64 0]) (by simp [results, Tryz.results33, go_sem]) rfl ⟨by rw [HR.out], F3.out⟩
  · rw [if_neg hs] at HR
    rw [frameV_no (by omega)]
    go_wp2
    refine bodyPost_ret (v := .tuple #[.string ByteArray.empty, .int .i64 23]) (by simp [results, Tryz.results33, go_sem]) rfl ⟨by rw [HR.out]; rfl, F3.out⟩
set_option maxRecDepth 100000 in
set_option maxHeartbeats 4000000 in
theorem walNames_any (n : Int) (d : List UInt8) (w : World) (hv : Vr w) (h0 : -9223372036854775808 ≤ n) (h1 : n ≤ 9223372036854775807) (hd : d.length ≤ 4294967295) :
    Calls Tryz.prog 7 #[.int .i64 n, sv d] w fun e w' => e = .returned (.bool true) ∧ Below w.heap.size w w' := by
  have HA := Lib.hid (awake_any w hv)
  obtain ⟨E, hE⟩ : ∃ E, (recB n d).2 = E := ⟨_, rfl⟩
  obtain ⟨B, hB⟩ : ∃ B, (recB n d).1 = B := ⟨_, rfl⟩
  obtain ⟨nm, hnm⟩ : ∃ nm, nameW n = nm := ⟨_, rfl⟩
  have HR : Hid (∀ w, Calls Tryz.prog 26 #[.int .i64 n, sv d] w fun e w' => e = .returned (.tuple #[sv B, .int .i64 E]) ∧ Fr No w w') := Lib.hid fun w => by rw [← hB, ← hE]; exact record_any n d w hd
  have HQ : Hid (∀ w, Calls Tryz.prog 33 #[.int .i64 n, sv d] w fun e w' => e = .returned (.tuple #[sv B, .int .i64 E]) ∧ Fr No w w') := Lib.hid fun w => by rw [← hB, ← hE]; exact rrec_any n d w h0 h1 hd
  have HN : Hid (∀ w, Vr w → Calls Tryz.prog 28 #[.int .i64 n] w fun e w' => e = .returned (sv nm) ∧ Fr No w w') := Lib.hid fun w hv => by rw [← hnm]; exact name_any n w hv h0 h1
  have HM : Hid (∀ w, Vr w → Calls Tryz.prog 34 #[.int .i64 n] w fun e w' => e = .returned (sv nm) ∧ Fr No w w') := Lib.hid fun w hv => by rw [← hnm]; exact rname_any n w hv h0 h1
  clear hE hB hnm
  go_enter Tryz.func7, Tryz.ntmps7
  go_wp2_with fail
  refine HA.out.mono ?_
  rintro e w1 ⟨rfl, hv1, f1⟩
  have HV1 := Lib.hid hv1
  have F1 := Lib.hid f1
  clear hv1 f1 HA
  go_wp2_with fail
  refine (HR.out w1).mono ?_
  rintro e w2 ⟨rfl, f2⟩
  have HV2 := Lib.hid (HV1.out.keep f2)
  have F2 := Lib.hid ((Fr.of_below F1.out).trans f2 fun _ _ h => h)
  clear f2 HR F1
  go_wp2_with fail
  refine (HQ.out w2).mono ?_
  rintro e w3 ⟨rfl, f3⟩
  have HV3 := Lib.hid (HV2.out.keep f3)
  have F3 := Lib.hid (F2.out.trans f3 fun _ _ h => h)
  clear f3 HQ F2
  go_wp2_with fail
  refine (HN.out w3 HV3.out).mono ?_
  rintro e w4 ⟨rfl, f4⟩
  have HV4 := Lib.hid (HV3.out.keep f4)
  have F4 := Lib.hid (F3.out.trans f4 fun _ _ h => h)
  clear f4 HN F3
  go_wp2_with fail
  refine (HM.out w4 HV4.out).mono ?_
  rintro e w5 ⟨rfl, f5⟩
  have F5 := Lib.hid (F4.out.trans f5 fun _ _ h => h)
  clear f5 HM F4
  go_wp2
  go_ret
  exact ⟨rfl, F5.out.below⟩
end Go.Proofs.YtccjkolcmdhliaaGreatDoor
