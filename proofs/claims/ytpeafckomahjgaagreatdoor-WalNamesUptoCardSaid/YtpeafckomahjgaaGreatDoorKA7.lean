/- The document's Num; the landed Sum; frames made and taken apart, both ways. -/
import Derived.Test.YtpeafckomahjgaaGreatDoorKA6
namespace Go.Proofs.YtpeafckomahjgaaGreatDoor
open Go.RowKit Go.Maps
set_option linter.unusedVariables false

section
variable {ops : Array Oper} {rest : List Oper} {o : Oper} {a : Act} {Q : Exit → Act → World → Prop} {w : World}
theorem wpList_add (hgd : o.guard = none) (sl x : Operand) (t1 t2 : TypeId) (ho : o.op = .call { callee := .builtin .append, args := #[sl, x], argTypes := #[t1, t2] })
    (v v' xv : Value) (w1 : World) (hs : a.eval sl = v) (hx : a.eval x = xv) (hr : (Builtin.append_ #[t1, t2] o.type #[v, xv]).run Tryz.prog w = .ok v' w1)
    (h : wpList Tryz.prog ops Q rest (a.put o.dst v') w1) : wpList Tryz.prog ops Q (o :: rest) a w := by
  refine wpList_plain hgd fun K hK => ?_
  unfold Oper.wp execOp
  simp only [ho, resolve, invoke, builtin, Sem.run_bind, Sem.run_pure, Result.andThen_ok, List.map_toArray, List.map_cons, List.map_nil, hs, hx, hr]
  exact hK _ _ h
end

theorem RowB.ge {w w' : World} {B : Nat} {v v' : Value} (h : ∀ k, v.ownBlock = some k → B ≤ k) (hB : B ≤ w.heap.size) (hv : ∀ k, v'.ownBlock = some k → v.ownBlock = some k ∨ k = w.heap.size) : ∀ k, v'.ownBlock = some k → B ≤ k := by
  intro k hk
  rcases hv k hk with e | e
  · exact h k e
  · omega

/-- A byte of one's own, laid ahead of an append. -/
theorem RowB.run_more {w : World} {v : Value} {l : List UInt8} (h : RowB w v l) (x : UInt8) (hlen : l.length + 1 ≤ 1000000000000) :
    ∃ A c w', (∀ ty, (Builtin.append_ #[63, 63] ty #[v, .slice (some ⟨w.heap.size, 0, none⟩) 1 1]).run Tryz.prog (w.alloc (.cells #[byteV x] 5)) = .ok (.slice A (l.length + 1) c) w') ∧ RowB w' (.slice A (l.length + 1) c) (l ++ [x]) ∧
      (∀ F : Nat → Prop, (∀ k, v.ownBlock = some k → F k) → (∀ k, w.heap.size ≤ k → F k) → Fr F w w') ∧ (∀ k, (Value.slice A (l.length + 1) c).ownBlock = some k → v.ownBlock = some k ∨ w.heap.size ≤ k) := by
  have hr : RowB (w.alloc (.cells #[byteV x] 5)) v l := h.of fun k hk => Below.heap_alloc w _ k (h.lt hk)
  have hc : (w.alloc (.cells #[byteV x] 5)).cell? ⟨w.heap.size, 0, none⟩ = some (byteV x) := (Blk.new w 5 #[byteV x]).cell 0
  obtain ⟨v', w', hr1, hr2, hr3, hr4⟩ := hr.run_add x 0 ⟨w.heap.size, 0, none⟩ 1 hc hlen
  obtain ⟨A, c, rfl⟩ := hr2.len
  have hl : (l ++ [x]).length = l.length + 1 := by simp
  rw [hl] at hr1 hr2 hr4
  refine ⟨A, c, w', fun ty => ?_, hr2, fun F h1 h2 => ?_, fun k hk => ?_⟩
  · exact hr1
  · exact ((Fr.refl F w).alloc _).grown hr3 fun k hk _ => h1 k hk
  · rcases hr4 k hk with e | e
    · exact .inl e
    · exact .inr (by simp at e; omega)

theorem byte_of (n j : Nat) : (.int .u8 ((((n / 256 ^ j : Nat) : Int)) % 256) : Value) = byteV (UInt8.ofNat (n / 256 ^ j % 256)) := by
  unfold byteV
  congr 1
  simp
theorem shift_div (n j : Nat) : ((n / 256 ^ j : Nat) : Int) / 256 = ((n / 256 ^ (j + 1) : Nat) : Int) := by
  rw [Nat.pow_succ, ← Nat.div_div_eq_div_mul]; omega

set_option maxRecDepth 100000 in
set_option maxHeartbeats 1000000 in
theorem Num_any (n k : Nat) (w : World) (hn : n < 2 ^ 64) (hk : k ≤ 8) :
    Calls Tryz.prog 91 #[.int .u64 (n : Int), .int .i64 (k : Int)] w (Low n k w) := by
  obtain ⟨s0, hs0⟩ : ∃ s0, w.heap.size = s0 := ⟨_, rfl⟩
  have HS := Lib.hid hs0
  clear hs0
  go_enter Tryz.func91, Tryz.ntmps91
  go_wp2
  go_loopw [0, 5, 6] (fun x v i wr => ∃ j : Nat, ∃ A c, j ≤ k ∧ i = .int .i64 j ∧ x = .int .u64 ((n / 256 ^ j : Nat) : Int) ∧ v = .slice A j c ∧ RowB wr (.slice A j c) (low n j) ∧ (∀ b, (Value.slice A j c).ownBlock = some b → w.heap.size ≤ b) ∧ Below w.heap.size w wr) (fun _ _ i _ => k - (intOf i).toNat)
  case atStart => exact ⟨0, none, 0, by omega, rfl, by simp, rfl, RowB.nil _, by simp [Value.ownBlock], Below.refl _ _⟩
  case round =>
    obtain ⟨j, A, c, hj, rfl, rfl, rfl, hrow, hown, hbl⟩ := hrel
    by_cases hlt : j < k
    · obtain ⟨A', c', w1, hr1, hr2, hr3, hr4⟩ := hrow.run_more (UInt8.ofNat (n / 256 ^ j % 256)) (by rw [low_len]; omega)
      rw [← low_snoc, low_len] at hr2
      rw [low_len] at hr1 hr4
      have hb1 : Below w.heap.size w w1 := by
        have hf : Fr (fun b => w.heap.size ≤ b) w w1 := (Fr.of_below hbl).any.trans (hr3 (fun b => w.heap.size ≤ b) hown fun b hb => Nat.le_trans hbl.size hb) fun _ _ h => h
        exact hf.below_of (Nat.le_refl _) fun _ h => h
      have HB := Lib.hid hb1
      have hown1 : ∀ b, (Value.slice A' (j + 1) c').ownBlock = some b → w.heap.size ≤ b := by
        intro b hb
        rcases hr4 b hb with e | e
        · exact hown b e
        · exact Nat.le_trans hbl.size e
      have HO := Lib.hid hown1
      have HR2 := Lib.hid hr2
      rw [← byte_of] at hr1
      have HR := Lib.hid hr1
      have HD := Lib.hid (shift_div n j)
      have hml : n / 256 ^ j < 2 ^ 64 := Nat.lt_of_le_of_lt (Nat.div_le_self _ _) hn
      clear hb1 hown1 hr2 hr3 hr4 hr1 hown hbl hrow
      generalize n / 256 ^ j = m at *
      go_wp2_with (at_builtin; refine wpList_add rfl _ _ _ _ rfl _ _ _ _ rfl rfl (HR.out _) ?_)
      go_roundw
      case rel => exact ⟨j + 1, A', c', by omega, by go_num, by rw [HD.out], by go_num, HR2.out, HO.out, HB.out⟩
      case measure => simp [intOf]; omega
    · obtain rfl : j = k := by omega
      have hcv := hrow.run_conv
      have HB := Lib.hid hbl
      clear hrow hbl hown
      go_wp2
      go_ret
      exact ⟨rfl, HB.out⟩

/-! ### the landed Sum -/
def SumB (l : List UInt8) (w : World) (e : Ending) (w' : World) : Prop := e = .returned (.int .u32 (crc l : Nat)) ∧ Below w.heap.size w w'
theorem fresh_alloc (w : World) : TabAt (w.alloc (.cells fresh 201)) w.heap.size := .inl (Blk.new w 201 _)
set_option maxRecDepth 100000 in
set_option maxHeartbeats 1000000 in
theorem sum_any (s : ByteArray) (w : World) (hs : s.size ≤ maxLen) :
    Calls Tryz.prog 109 #[.string s] w (SumB s.data.toList w) := by
  have HT := Lib.hid (tsum_any w.heap.size s (w.alloc (.cells fresh 201)) hs (fresh_alloc w))
  have HF : Hid (Fr (One w.heap.size) w (w.alloc (.cells fresh 201))) := Lib.hid ((Fr.refl _ w).alloc _)
  go_enter Tryz.func109, Tryz.ntmps109
  go_wp2_with (go_at_call 139; refine HT.out.mono ?_; rintro e w' ⟨rfl, hb, hf⟩)
  go_ret
  exact ⟨rfl, (HF.out.trans hf fun _ _ h => h).below_of (Nat.le_refl _) fun k hk => Nat.le_of_eq hk.symm⟩
end Go.Proofs.YtpeafckomahjgaaGreatDoor
