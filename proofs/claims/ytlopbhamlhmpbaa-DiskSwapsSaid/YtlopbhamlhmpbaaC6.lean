/- Calls on no disk; the zero disk. -/
import Derived.Test.YtlopbhamlhmpbaaC5
namespace Go.Proofs.Ytlopbhamlhmpbaa
open Go.RowKit Go.Maps Go.Sort
set_option linter.unusedVariables false

theorem fr_eq {w w' : World} (h : w = w') : Fr No w w' := h ▸ Fr.refl _ _

theorem find_nil (s : ByteArray) (w : World) : Calls Try.prog 61 #[.pointer none, .string s] w fun e w' => e = .returned (.tuple #[.pointer none, .int .i64 1]) ∧ Fr No w w' := by
  go_enter Try.func61, Try.ntmps61
  go_wp2_with fail
  refine (check_nil _ _ _ _).mono ?_
  rintro e w' ⟨rfl, rfl⟩
  go_wp2
  go_ret2
  exact ⟨rfl, (Fr.refl _ _).alloc _⟩
theorem read_nil (s : ByteArray) (w : World) : Calls Try.prog 20 #[.pointer none, .string s] w fun e w' => e = .returned (.tuple #[.string ⟨#[]⟩, .int .i64 1]) ∧ Fr No w w' := by
  go_enter Try.func20, Try.ntmps20
  go_wp2_with fail
  refine (find_nil _ _).mono ?_
  rintro e w' ⟨rfl, hf⟩
  have HF := Lib.hid hf; clear hf
  go_wp2
  go_ret2
  exact ⟨rfl, HF.out⟩
theorem sync_nil (s : ByteArray) (w : World) : Calls Try.prog 19 #[.pointer none, .string s] w fun e w' => e = .returned (.int .i64 1) ∧ Fr No w w' := by
  go_enter Try.func19, Try.ntmps19
  go_wp2_with fail
  refine (find_nil _ _).mono ?_
  rintro e w' ⟨rfl, hf⟩
  have HF := Lib.hid hf; clear hf
  go_wp2
  go_ret
  exact ⟨rfl, HF.out⟩
theorem remove_nil (s : ByteArray) (w : World) : Calls Try.prog 23 #[.pointer none, .string s] w fun e w' => e = .returned (.int .i64 1) ∧ Fr No w w' := by
  go_enter Try.func23, Try.ntmps23
  go_wp2_with fail
  refine (find_nil _ _).mono ?_
  rintro e w' ⟨rfl, hf⟩
  have HF := Lib.hid hf; clear hf
  go_wp2
  go_ret
  exact ⟨rfl, HF.out⟩
theorem cut_nil (s : ByteArray) (n : Int) (w : World) : Calls Try.prog 31 #[.pointer none, .string s, .int .i64 n] w fun e w' => e = .returned (.int .i64 1) ∧ Fr No w w' := by
  go_enter Try.func31, Try.ntmps31
  go_wp2_with fail
  refine (find_nil _ _).mono ?_
  rintro e w' ⟨rfl, hf⟩
  have HF := Lib.hid hf; clear hf
  go_wp2
  go_ret
  exact ⟨rfl, HF.out⟩
theorem write_nil (s t : ByteArray) (w : World) : Calls Try.prog 13 #[.pointer none, .string s, .string t] w fun e w' => e = .returned (.int .i64 1) ∧ Fr No w w' := by
  go_enter Try.func13, Try.ntmps13
  go_wp2_with fail
  refine (check_nil _ _ _ _).mono ?_
  rintro e w' ⟨rfl, rfl⟩
  go_wp2
  go_ret
  exact ⟨rfl, (Fr.refl _ _).alloc _⟩
theorem rename_nil (s t : ByteArray) (w : World) : Calls Try.prog 29 #[.pointer none, .string s, .string t] w fun e w' => e = .returned (.int .i64 1) ∧ Fr No w w' := by
  go_enter Try.func29, Try.ntmps29
  go_wp2_with fail
  refine (check_nil _ _ _ _).mono ?_
  rintro e w' ⟨rfl, rfl⟩
  go_wp2
  go_ret
  exact ⟨rfl, (Fr.refl _ _).alloc _⟩
theorem settle_nil (w : World) : Calls Try.prog 17 #[.pointer none] w fun e w' => e = .returned (.int .i64 1) ∧ w = w' := by
  go_enter Try.func17, Try.ntmps17
  go_wp2_with fail
  refine (check_nil _ _ _ _).mono ?_
  rintro e w' ⟨rfl, rfl⟩
  go_wp2
  go_ret
  exact ⟨rfl, rfl⟩
theorem copy_nil (w : World) (B : Nat) (hB : B ≤ w.heap.size) : Calls Try.prog 12 #[.pointer none] w fun e w' => ∃ d, e = .returned (.pointer (some ⟨d, 0, none⟩)) ∧ Dsk w' B d 0 (AS.new 0) ∧ Fr No w w' := by
  go_enter Try.func12, Try.ntmps12
  go_wp2_with fail
  refine (m_new 0 w B hB).mono ?_
  rintro e w' ⟨d, rfl, h, f⟩
  have H := Lib.hid h
  have HF := Lib.hid f
  clear h f
  go_wp2
  go_ret
  exact ⟨d, rfl, H.out, HF.out⟩

/-- A disk, and what lay there before it, behind world w. -/
structure Mid (w : World) (d N : Nat) (S : AS) (w' : World) : Prop where
  dsk : Dsk w' w.heap.size d N S
  bel : Below w.heap.size w w'
theorem Mid.keep {w w1 w2 : World} {d N : Nat} {S : AS} (h : Mid w d N S w1) (hf : Fr No w1 w2) : Mid w d N S w2 := ⟨h.dsk.keep hf, h.bel.trans (fr_base h.dsk hf)⟩
theorem Mid.turn {w w1 w2 : World} {d N M : Nat} {S S' : AS} (h : Mid w d N S w1) (hd : Dsk w2 w.heap.size d M S') (hb : Below w.heap.size w1 w2) : Mid w d M S' w2 := ⟨hd, h.bel.trans hb⟩
theorem Mid.picks {w w1 : World} {d N g n c : Nat} {A : Option Addr} {ps : List Int} {S : AS} (h : Mid w d N S w1) (hp : PicksAt w g A n c ps) : PicksAt w1 g A n c ps :=
  hp.fr (Fr.of_below h.bel) (fun _ hf => hf)

def Z0 : AS := { room := 0, on := false, armed := false, left := 0, steps := 0, last := 0, names := .map [], firm := .map [], loose := [], file := fun _ => none }
def Rp.zero : Rp := { nm := none, fm := none, fb := none, lv := .slice none 0 0, rc := fun _ => (0, .slice none 0 0), FD := .map [] }
theorem inv_zero : Inv 0 Z0 := (inv_new 0).keep rfl rfl rfl rfl ⟨by decide, by decide⟩ ⟨by decide, by decide⟩ (fun n r h => by cases h) (fun n r h => by cases h)
theorem zero_mid (w : World) : Mid w w.heap.size 0 Z0 (w.alloc (.cells (cellsOf Z0 Rp.zero) 61)) := by
  have fa : Fr No w (w.alloc (.cells (cellsOf Z0 Rp.zero) 61)) := (Fr.refl _ _).alloc _
  refine ⟨⟨inv_zero, ⟨Rp.zero, ?_, fun k hk => ?_⟩, by omega, fa.size⟩, fa.below⟩
  · exact {
      blk := heap_alloc_new w _
      names := rfl
      firm := rfl
      files := rfl
      loose := World.ownsRow_nil _ 0 73 3
      fd := fun n => rfl
      ne1 := fun b h => by cases h
      ne2 := fun b h => by cases h
      ne3 := fun b h => by cases h
      ap := fun n m r q _ h => by cases h
      onn := fun h => by cases h }
  · rcases hk with hk | hk | hk | hk | hk | ⟨n, r, hr, _⟩
    · omega
    · cases hk
    · cases hk
    · cases hk
    · simp [Rp.zero, Value.ownBlock] at hk
    · cases hr

def Z1 : AS := Z0.crashedAt [] []
theorem zero_crashed (ps : List Int) : Z0.crashed ps = Z1 := by
  have hp : ∀ k, past Z0 k = .map [] := fun k => by simp [past, Z0]
  rw [crashed_at Z0 ps [] (by rw [hp]; exact sorted_none rfl)]
  unfold Z1 AS.crashedAt
  rw [hp, hp]
  rfl
theorem zw1 : Z0.write [97] [] = (Z0, 13) := by kernel_rfl
def Z2 : AS := (Z1.write [97] []).1
theorem zw2 : (Z1.write [97] []).2 = 0 := by kernel_rfl
theorem zw3 : (Z2.write [97] [120]).2 = 12 := by kernel_rfl

theorem write_made {w : World} {d N : Nat} {R : Rp} {S : AS} (hA : At w d R S) (hi : Inv N S) (hN : N + 1 ≤ 1000000000000) (l data : List UInt8) (hl : l.length ≤ maxLen) (hE : checkOf S.on [l] = 0) (hn : look S.names l = none) (hful : ¬ S.room < usedOf S.file S.names + data.length) (h64 : ¬ 64 ≤ Maps.size S.names) :
    Calls Try.prog 13 #[.pointer (some ⟨d, 0, none⟩), .string ⟨l.toArray⟩, .string ⟨data.toArray⟩] w fun e w' => e = .returned (.int .i64 S.stepE) ∧ Inv (N + 1) (((S.made l).written (S.last + 1) { bytes := [], firm := 0 } data).step) ∧ Post d R S w (((S.made l).written (S.last + 1) { bytes := [], firm := 0 } data).step) w' := by
  have hlo := hi.loose
  have hla := hi.last
  have hroom := hi.room
  have hu := @used_nonneg S.file S.names
  have hW := hi.wf (by omega)
  have hsz : Maps.size S.names ≤ 1000000 := by have := hi.names.small; omega
  refine (write_new d R S l data w hA hW hl hE hn hsz (by omega) (by omega) (by omega) (by omega)).mono ?_
  rintro e w' ⟨he, hP⟩
  have hm := hi.made (checkOf_ok hE) hn (by omega)
  have hk := (hm.turn (n := S.last + 1) (r := { bytes := [], firm := 0 }) (upd_same _ _ _) (r' := { bytes := [] ++ data, firm := 0 }) (by simp) (by simp; omega)).step
  exact ⟨he, hk, hP⟩

end Go.Proofs.Ytlopbhamlhmpbaa
