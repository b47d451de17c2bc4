/- Files' bytes: read, made firm; what follows from one file's turning. -/
import Derived.Test.YtpeafckomahjgaaGreatDoorDA5
import Derived.Lib.AppendStr
namespace Go.Proofs.YtpeafckomahjgaaGreatDoor
open Go.RowKit Go.Maps
set_option linter.unusedVariables false

theorem info5 : (Tryz.prog.info? 5).map (fun i => (i.zero, i.size, i.bytes)) = some (some (.int .u8 0), 1, 1) := by kernel_rfl

/-- The bytes of an owned row, as a text. -/
theorem run_text {w : World} {base : Nat} {v : Value} {l : List UInt8} (h : w.ownsRow base 5 1 v l.length (l.map byteV)) :
    (convert 63 9 v).run Tryz.prog w = .ok (.string ⟨l.toArray⟩) w := by
  rcases h.2 with ⟨rfl, hl⟩ | ⟨g, cap, cur, rfl, hb, hh, hnc, hcm, hs, ht⟩
  · have : l = [] := List.eq_nil_of_length_eq_zero hl
    subst this
    exact run_convert_bytes_nil w 63 5 Tryz.underlying63 Tryz.underlying5 0 0 9 Tryz.underlying9
  · have hc := h.cells (g := g) rfl
    have hcell : ∀ i, i < l.length → w.cell? ⟨g, 0 + i, none⟩ = some (.int .u8 ((l.map fun u => (u.toNat : Int)).getD i 0)) := by
      intro i hi
      have h1 := hc i (byteV l[i]) (by simp [List.getElem?_eq_getElem hi])
      have e : ((⟨g, 0, none⟩ : Addr).add i) = ⟨g, 0 + i, none⟩ := by unfold Addr.add; split <;> simp_all
      rw [e] at h1
      rw [h1]
      simp [byteV, List.getD, List.getElem?_eq_getElem hi]
    have h2 := run_convert_bytes_arg w 63 5 Tryz.underlying63 Tryz.underlying5 g 0 l.length cap (l.map fun u => (u.toNat : Int)) (List.length_map _) hcell 9 Tryz.underlying9
    refine h2.trans ?_
    have e2 : strOfNums (l.map fun u => (u.toNat : Int)) = ⟨l.toArray⟩ := by
      unfold strOfNums
      rw [List.map_map]
      have : ((fun n : Int => UInt8.ofNat n.toNat) ∘ fun u : UInt8 => (u.toNat : Int)) = id := by
        funext u; simp
      rw [this, List.map_id]
    rw [e2]

theorem len_row {w : World} {base : Nat} {v : Value} {n : Nat} {e : TypeId} {size : Nat} {xs : List Value} (h : w.ownsRow base e size v n xs) : ∃ A c, v = .slice A n c := by
  rcases h.2 with ⟨rfl, rfl⟩ | ⟨g, cap, cur, rfl, _⟩
  · exact ⟨_, _, rfl⟩
  · exact ⟨_, _, rfl⟩

/-- A disk, well made: what the document's words keep. -/
structure WF (S : AS) : Prop where
  left : 0 ≤ S.left ∧ S.left ≤ 9223372036854775807
  room : 0 ≤ S.room ∧ S.room ≤ 16777216
  last : 0 ≤ S.last ∧ S.last ≤ 4611686018427387904
  ref : ∀ l n, look S.names l = some n → ∃ r, S.file n = some r
  file : ∀ n r, S.file n = some r → 1 ≤ n ∧ n ≤ S.last ∧ r.firm ≤ r.bytes.length ∧ r.bytes.length ≤ 16777216

theorem WF.wf {S : AS} (h : WF S) {n : Int} {r : FR} (hr : S.file n = some r) : (Lit.int .i64 n).wf = true := by
  have h1 := h.file n r hr
  have h2 := h.last
  exact wf64 (by omega) (by omega)

/-- What a call leaves of a disk. -/
structure PR (d : Nat) (R : Rp) (S : AS) (w : World) (R' : Rp) (S' : AS) (w' : World) : Prop where
  at_ : At w' d R' S'
  fr : Fr (foot d R S) w w'
  foot : ∀ k, foot d R' S' k → foot d R S k ∨ w.heap.size ≤ k
def Post (d : Nat) (R : Rp) (S : AS) (w : World) (S' : AS) (w' : World) : Prop := ∃ R', PR d R S w R' S' w'
theorem PR.post {d : Nat} {R R' : Rp} {S S' : AS} {w w' : World} (h : PR d R S w R' S' w') : Post d R S w S' w' := ⟨R', h⟩
theorem PR.refl {d : Nat} {R : Rp} {S : AS} {w : World} (h : At w d R S) : PR d R S w R S w := ⟨h, Fr.refl _ _, fun k hk => .inl hk⟩
theorem PR.same {d : Nat} {R : Rp} {S : AS} {w w' : World} (h : At w d R S) (hf : Fr No w w') : PR d R S w R S w' := ⟨h.keep hf, hf.any, fun k hk => .inl hk⟩
theorem PR.own {d : Nat} {R : Rp} {S S' : AS} {w w' : World} (h : At w' d R S') (hf : Fr (One d) w w') (e : S'.file = S.file) : PR d R S w R S' w' :=
  ⟨h, hf.mono (fun k _ hk => .inl hk), fun k hk => by
    rcases hk with hk | hk | hk | hk | hk | ⟨n, r, hr, hk⟩
    · exact .inl (.inl hk)
    · exact .inl (.inr (.inl hk))
    · exact .inl (.inr (.inr (.inl hk)))
    · exact .inl (.inr (.inr (.inr (.inl hk))))
    · exact .inl (.inr (.inr (.inr (.inr (.inl hk)))))
    · exact .inl (.inr (.inr (.inr (.inr (.inr ⟨n, r, e ▸ hr, hk⟩)))))⟩
theorem PR.trans {d : Nat} {R R1 R2 : Rp} {S S1 S2 : AS} {w w1 w2 : World} (h : PR d R S w R1 S1 w1) (k : PR d R1 S1 w1 R2 S2 w2) : PR d R S w R2 S2 w2 := by
  obtain ⟨h1, f1, g1⟩ := h
  obtain ⟨h2, f2, g2⟩ := k
  refine ⟨h2, f1.trans f2 (fun j hj hf => (g1 j hf).resolve_right (by omega)), fun j hj => ?_⟩
  rcases g2 j hj with hj | hj
  · exact g1 j hj
  · exact .inr (by have := f1.size; omega)

/-! ### Read -/
set_option maxHeartbeats 400000 in
theorem read_bad (d : Nat) (R : Rp) (S : AS) (l : List UInt8) (E : Int) (w : World) (h : At w d R S) (hl : l.length ≤ maxLen) (hE : checkOf S.on [l] = E) (hb : E ≠ 0) :
    Calls Tryz.prog 47 #[.pointer (some ⟨d, 0, none⟩), .string ⟨l.toArray⟩] w fun e w' => e = .returned (.tuple #[.string ⟨[].toArray⟩, .int .i64 E]) ∧ Fr No w w' := by
  have hcon := find_bad d R S l E w h hl hE hb
  have hne2 : (E != 0) = true := by simpa using hb
  clear hE hb hl h
  go_enter Tryz.func47, Tryz.ntmps47
  go_wp2_with fail
  refine hcon.mono ?_
  rintro e w' ⟨rfl, hf⟩
  have HF := Lib.hid hf; clear hf
  go_wp2
  go_ret2
  exact ⟨rfl, HF.out⟩

set_option maxHeartbeats 400000 in
theorem read_none (d : Nat) (R : Rp) (S : AS) (l : List UInt8) (w : World) (h : At w d R S) (hl : l.length ≤ maxLen) (hE : checkOf S.on [l] = 0) (hn : look S.names l = none) :
    Calls Tryz.prog 47 #[.pointer (some ⟨d, 0, none⟩), .string ⟨l.toArray⟩] w fun e w' => e = .returned (.tuple #[.string ⟨[].toArray⟩, .int .i64 11]) ∧ Fr No w w' := by
  have hcon := find_none d R S l w h hl hE hn
  clear hE hn hl h
  go_enter Tryz.func47, Tryz.ntmps47
  go_wp2_with fail
  refine hcon.mono ?_
  rintro e w' ⟨rfl, hf⟩
  have HF := Lib.hid hf; clear hf
  go_wp2
  go_ret2
  exact ⟨rfl, HF.out⟩

set_option maxHeartbeats 400000 in
theorem read_some (d : Nat) (R : Rp) (S : AS) (l : List UInt8) (n : Int) (r : FR) (w : World) (h : At w d R S) (hW : WF S) (hl : l.length ≤ maxLen) (hE : checkOf S.on [l] = 0) (hn : look S.names l = some n) (hr : S.file n = some r) :
    Calls Tryz.prog 47 #[.pointer (some ⟨d, 0, none⟩), .string ⟨l.toArray⟩] w fun e w' => e = .returned (.tuple #[.string ⟨r.bytes.toArray⟩, .int .i64 0]) ∧ Fr No w w' := by
  have hcon := find_some d R S l n r w h hl hE hn hr (hW.wf hr)
  go_enter Tryz.func47, Tryz.ntmps47
  go_wp2_with fail
  refine hcon.mono ?_
  rintro e w' ⟨rfl, hf⟩
  have h1 := h.keep hf
  have hfd := h1.fd n
  rw [hr] at hfd
  obtain ⟨_, hb, ho⟩ := hfd
  have c0 := hb.cell 0
  have hcv := run_text ho
  have HF := Lib.hid hf
  have c0' : w'.cell? ⟨(R.rc n).1, 0, none⟩ = some (R.rc n).2 := c0
  clear hf h h1 hb ho c0 hE hn hr hW hl hcon
  go_wp2
  go_ret2
  exact ⟨rfl, HF.out⟩

end Go.Proofs.YtpeafckomahjgaaGreatDoor
