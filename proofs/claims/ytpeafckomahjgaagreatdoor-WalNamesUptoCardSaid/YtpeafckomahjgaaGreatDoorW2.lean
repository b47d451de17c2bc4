/- The log: its state, how it lies in memory beside its disk; a record's bytes; state, said. -/
import Derived.Test.YtpeafckomahjgaaGreatDoorW1
import Derived.Test.YtpeafckomahjgaaGreatDoorDX3
namespace Go.Proofs.YtpeafckomahjgaaGreatDoor
open Go.RowKit Go.Maps
set_option linter.unusedVariables false

/-! ### Record -/
def body (seq : Int) (d : List UInt8) : List UInt8 := enc8 seq ++ (low d.length 4 ++ d)
def recB (seq : Int) (d : List UInt8) : List UInt8 × Int := if d.length ≤ 65524 then (frameR (body seq d), 0) else ([], 23)
theorem enc8_len (n : Int) : (enc8 n).length = 8 := by unfold enc8; rw [low_len]
theorem rec_done (seq : Int) (d : List UInt8) (hd : d.length ≤ 4294967295) :
    ((WS.zero.int seq).text d).fault = (if d.length ≤ 65524 then 0 else 23) ∧ ((WS.zero.int seq).text d).data = if d.length ≤ 65524 then body seq d else [] := by
  have e0 : WS.zero.int seq = ⟨enc8 seq, 0⟩ := by
    unfold WS.int WS.lay WS.zero
    rw [if_pos rfl, if_neg (by rw [enc8_len]; simp)]
    simp
  have e1 : (⟨enc8 seq, 0⟩ : WS).count (d.length : Int) = ⟨enc8 seq ++ low d.length 4, 0⟩ := by
    unfold WS.count
    rw [if_neg (by omega)]
    unfold WS.lay
    rw [if_pos rfl, if_neg (by rw [low_len]; simp only [enc8_len]; omega)]
    rw [Int.toNat_natCast]
  unfold WS.text
  rw [e0, e1]
  unfold WS.lay
  rw [if_pos rfl]
  simp only
  rw [List.length_append, enc8_len, low_len]
  by_cases h : d.length ≤ 65524
  · rw [if_neg (by omega), if_pos h, if_pos h]
    exact ⟨rfl, by unfold body; simp⟩
  · rw [if_pos (by omega), if_neg h, if_neg h]
    exact ⟨rfl, rfl⟩
theorem body_len (seq : Int) (d : List UInt8) : (body seq d).length = 12 + d.length := by
  unfold body
  rw [List.length_append, List.length_append, enc8_len, low_len]
  omega
theorem wl_all {v v' : Value} {w w0 w' : World} (h : WL (some w.heap.size) v w0 v' w') (hw : Below w.heap.size w w0) (hv : ∀ k, v.ownBlock = some k → w.heap.size ≤ k) : Below w.heap.size w w' ∧ ∀ k, v'.ownBlock = some k → w.heap.size ≤ k := by
  refine ⟨hw.trans (h.fr.below_of hw.size fun k hk => ?_), fun k hk => ?_⟩
  · rcases hk with e | e
    · rw [← Option.some.inj e]; exact Nat.le_refl _
    · exact hv k e
  · rcases h.own k hk with e | e
    · exact hv k e
    · have := hw.size; omega
set_option maxHeartbeats 1000000 in
theorem record_any (seq : Int) (d : List UInt8) (w : World) (hd : d.length ≤ 4294967295) :
    Calls Tryz.prog 26 #[.int .i64 seq, sv d] w fun e w' => e = .returned (.tuple #[sv (recB seq d).1, .int .i64 (recB seq d).2]) ∧ Fr No w w' := by
  obtain ⟨hf, hdt⟩ := rec_done seq d hd
  have hA := WAt.new w
  obtain ⟨w0, hw0⟩ : ∃ w0, w.alloc (.cells #[.slice none 0 0, .int .i64 0] 115) = w0 := ⟨_, rfl⟩
  have hb0 : Below w.heap.size w (w.alloc (.cells #[.slice none 0 0, .int .i64 0] 115)) := (Below.refl _ _).alloc (Nat.le_refl _) _
  rw [hw0] at hA hb0
  have hv0 : ∀ k, (Value.slice none 0 0).ownBlock = some k → w.heap.size ≤ k := by simp [Value.ownBlock]
  obtain ⟨g, hg⟩ : ∃ g, w.heap.size = g := ⟨_, rfl⟩
  have HA := Lib.hid hA
  have HB0 := Lib.hid hb0
  have HW0 := Lib.hid hw0
  have HG := Lib.hid hg
  have HF := Lib.hid hf
  have HDT := Lib.hid hdt
  have HMD : Hid (d.length ≤ maxLen) := Lib.hid (by unfold maxLen; omega)
  clear hA hb0 hw0 hf hdt hd
  rw [hg] at HA
  clear hg
  go_enter Tryz.func26, Tryz.ntmps26
  go_wp2_with fail
  rw [HW0.out, HG.out]
  have C1 := wint_any (some g) _ _ seq w0 HA.out
  rw [wpt_some] at C1
  refine C1.mono ?_
  clear C1
  rintro e w1 ⟨rfl, v1, h1, l1⟩
  have L1 := Lib.hid (wl_all (w := w) (by rw [HG.out]; exact l1) HB0.out hv0)
  have H1 := Lib.hid h1
  clear h1 l1
  go_wp2_with fail
  have C2 := wtext_any (some g) _ _ d w1 H1.out HMD.out
  rw [wpt_some] at C2
  refine C2.mono ?_
  clear C2
  rintro e w2 ⟨rfl, v2, h2, l2⟩
  have L2 := Lib.hid (wl_all (w := w) (by rw [HG.out]; exact l2) L1.out.1 L1.out.2)
  have H2 := Lib.hid h2
  clear h2 l2
  go_wp2_with fail
  have C3 := wdone_any (some g) _ _ w2 H2.out
  rw [wpt_some] at C3
  unfold WDone at C3
  rw [HF.out, HDT.out] at C3
  refine C3.mono ?_
  clear C3
  rintro e w3 ⟨rfl, f3⟩
  have L3 := Lib.hid (L2.out.1.trans (f3.below.mono L2.out.1.size))
  clear f3
  by_cases h : d.length ≤ 65524
  · rw [if_pos h, if_pos h]
    have HV : Hid (recB seq d = (frameR (body seq d), 0)) := Lib.hid (by unfold recB; rw [if_pos h])
    have hbl := body_len seq d
    have C4 := Lib.hid (frame_ok (body seq d) w3 (by omega))
    unfold Framed at C4
    rw [frameV_ok (by omega)] at C4
    obtain ⟨bd, hbd⟩ : ∃ bd, body seq d = bd := ⟨_, rfl⟩
    rw [hbd] at C4 HV ⊢
    clear hbd hbl h
    go_wp2_with fail
    refine C4.out.mono ?_
    rintro e w4 ⟨rfl, b4⟩
    have L4 := Lib.hid (L3.out.trans (b4.mono L3.out.size))
    clear b4
    go_wp2
    go_ret2
    exact ⟨by rw [HV.out]; rfl, Fr.of_below L4.out⟩
  · rw [if_neg h, if_neg h]
    have HV : Hid (recB seq d = ([], 23)) := Lib.hid (by unfold recB; rw [if_neg h])
    clear h
    go_wp2
    go_ret2
    exact ⟨by rw [HV.out]; rfl, Fr.of_below L3.out⟩

/-! ### the log -/
structure SegP where
  n : Int
  last : Int
def SegP.cells (s : SegP) : List Value := [.int .i64 s.n, .int .i64 s.last]
structure LS where
  fault : Int
  last : Int
  firm : Int
  files : List SegP
  number : Int
  size : Int
  bytes : Bool
  names : Bool
structure LS.Ok (N : Nat) (L : LS) : Prop where
  last : 0 ≤ L.last ∧ L.last ≤ 9223372036854775807
  firm : 0 ≤ L.firm ∧ L.firm ≤ 9223372036854775807
  number : 0 ≤ L.number ∧ L.number ≤ 100000000 + N
  size : 0 ≤ L.size ∧ L.size ≤ (N + 1) * 33554432
  files : L.files.length ≤ 64 + N
def LS.cells (L : LS) (d : Nat) (fv : Value) : Array Value :=
  #[.iface 25 (.pointer (some ⟨d, 0, none⟩)), .int .i64 L.fault, .int .i64 L.last, .int .i64 L.firm, fv, .int .i64 L.number, .int .i64 L.size, .bool L.bytes, .bool L.names]
structure LAt (w : World) (d g : Nat) (fv : Value) (L : LS) : Prop where
  blk : Blk w g 71 (L.cells d fv)
  row : w.ownsRow 0 102 2 fv L.files.length (L.files.flatMap SegP.cells)
/-- The blocks that aren't the disk's: the law's, and the log's. -/
def XL (X : Nat → Prop) (g : Nat) (fv : Value) (k : Nat) : Prop := X k ∨ k = g ∨ fv.ownBlock = some k
/-- A log on its disk, beside the law's own blocks X. -/
structure Lg (w : World) (X : Nat → Prop) (d g N : Nat) (S : AS) (L : LS) : Prop where
  vr : Vr w
  lo : ∀ k, k < 4 → X k
  log : ∃ fv, LAt w d g fv L ∧ Dk w (XL X g fv) d N S ∧ ¬ X g ∧ ∀ k, fv.ownBlock = some k → ¬ X k
  ok : L.Ok N
  big : N ≤ 1000000000
theorem LAt.of {w w' : World} {d g : Nat} {fv : Value} {L : LS} (h : LAt w d g fv L) (hk : ∀ k, (k = g ∨ fv.ownBlock = some k) → w'.heap[k]? = w.heap[k]?) : LAt w' d g fv L :=
  ⟨h.blk.of (hk g (.inl rfl)), own_of h.row fun k hb => hk k (.inr hb)⟩
theorem LAt.ne {w : World} {d g : Nat} {fv : Value} {L : LS} (h : LAt w d g fv L) : ∀ k, fv.ownBlock = some k → k ≠ g := fun k hk => own_blk_ne h.row hk h.blk (by decide)
theorem LAt.lt {w : World} {d g : Nat} {fv : Value} {L : LS} (h : LAt w d g fv L) : ∀ k, (k = g ∨ fv.ownBlock = some k) → k < w.heap.size := by
  rintro k (rfl | hk)
  · exact h.blk.lt
  · exact (h.row.lt k hk).2
theorem Vr.x {w w' : World} {X : Nat → Prop} (h : Vr w) (lo : ∀ k, k < 4 → X k) (hf : Fr (fun k => ¬ X k) w w') : Vr w' := h.of fun k hk => hf.block k (by have := h.lt; omega) fun hn => hn (lo k hk)
theorem Lg.keep {w w' : World} {X : Nat → Prop} {d g N : Nat} {S : AS} {L : LS} (h : Lg w X d g N S L) (hf : Fr No w w') : Lg w' X d g N S L := by
  obtain ⟨fv, h1, h2, h3, h4⟩ := h.log
  exact ⟨h.vr.keep hf, h.lo, ⟨fv, h1.of fun k hk => hf.block k (h1.lt k hk) id, h2.keep hf, h3, h4⟩, h.ok, h.big⟩
theorem Lg.more {w : World} {X : Nat → Prop} {d g N M : Nat} {S : AS} {L : LS} (h : Lg w X d g N S L) (hNM : N ≤ M) (hM : M ≤ 1000000000) : Lg w X d g M S L := by
  obtain ⟨fv, h1, h2, h3, h4⟩ := h.log
  exact ⟨h.vr, h.lo, ⟨fv, h1, h2.more hNM (by omega), h3, h4⟩, ⟨h.ok.last, h.ok.firm, by have := h.ok.number; omega, by
    have := h.ok.size
    have h2 : ((N : Int) + 1) * 33554432 ≤ ((M : Int) + 1) * 33554432 := by omega
    omega, by have := h.ok.files; omega⟩, hM⟩
/-- The disk has turned, and the log's own are as they were. -/
theorem Lg.disk {w w' : World} {X : Nat → Prop} {d g N M : Nat} {S S' : AS} {L : LS} {fv : Value} (h : Lg w X d g N S L) (hM : N ≤ M) (hM2 : M ≤ 1000000000) (hL : LAt w d g fv L) (h3 : ¬ X g) (h4 : ∀ k, fv.ownBlock = some k → ¬ X k) (hd : Dk w' (XL X g fv) d M S') (hf : Fr (fun k => ¬ XL X g fv k) w w') :
    Lg w' X d g M S' L ∧ Fr (fun k => ¬ X k) w w' := by
  have hx : Fr (fun k => ¬ X k) w w' := hf.mono fun k _ hk hx => hk (.inl hx)
  refine ⟨⟨h.vr.x h.lo hx, h.lo, ⟨fv, hL.of fun k hk => hf.block k (hL.lt k hk) fun hn => hn (.inr hk), hd, h3, h4⟩, ?_, hM2⟩, hx⟩
  exact ⟨h.ok.last, h.ok.firm, by have := h.ok.number; omega, by
    have := h.ok.size
    have h2 : ((N : Int) + 1) * 33554432 ≤ ((M : Int) + 1) * 33554432 := by omega
    omega, by have := h.ok.files; omega⟩
/-- The log's own block has turned. -/
theorem Lg.own {w w' : World} {X : Nat → Prop} {d g N : Nat} {S : AS} {L L' : LS} {fv : Value} (h : Lg w X d g N S L) (hL : LAt w d g fv L) (hd : Dk w (XL X g fv) d N S) (h3 : ¬ X g) (h4 : ∀ k, fv.ownBlock = some k → ¬ X k) (hf : Fr (One g) w w') (hb : Blk w' g 71 (L'.cells d fv)) (hfl : L'.files = L.files) (hok : L'.Ok N) :
    Lg w' X d g N S L' ∧ Fr (fun k => ¬ X k) w w' := by
  have hx : Fr (fun k => ¬ X k) w w' := hf.mono fun k _ hk hx => h3 (by have : k = g := hk; rw [← this]; exact hx)
  refine ⟨⟨h.vr.x h.lo hx, h.lo, ⟨fv, ⟨hb, ?_⟩, hd.side (hf.mono fun k _ hk => .inr (.inl hk)), h3, h4⟩, hok, h.big⟩, hx⟩
  rw [hfl]
  exact own_of hL.row fun k hk => hf.block k (hL.lt k (.inr hk)) fun e => hL.ne k hk e
end Go.Proofs.YtpeafckomahjgaaGreatDoor
