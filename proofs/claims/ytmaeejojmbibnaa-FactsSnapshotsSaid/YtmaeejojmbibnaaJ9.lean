/- same, of lists that read as the same: it says so. -/
import Derived.Test.YtmaeejojmbibnaaJ7
namespace Go.Proofs.Ytmaeejojmbibnaa
open Go.RowKit Go.Maps
set_option linter.unusedVariables false

def SameQ (w : World) (e : Ending) (w' : World) : Prop := e = .returned (.bool true) ∧ Fr No w w'
set_option maxRecDepth 100000 in
set_option maxHeartbeats 3000000 in
theorem same_true (w : World) (K1 K2 : Nat → Prop) (v1 v2 : Value) (l : List FactP) (h1 : Facts K1 w v1 l) (h2 : Facts K2 w v2 l) : Calls Try.prog 18 #[v1, v2] w (SameQ w) := by
  obtain ⟨A1, c1, rfl⟩ := h1.slice
  obtain ⟨A2, c2, rfl⟩ := h2.slice
  have hmx := h1.len_le
  unfold maxLen at hmx
  obtain ⟨n, hn⟩ : ∃ n, l.length = n := ⟨_, rfl⟩
  have HN := Lib.hid hn
  have H1 := Lib.hid h1
  have H2 := Lib.hid h2
  rw [hn] at hmx ⊢
  clear hn h1 h2
  go_enter Try.func18, Try.ntmps18
  go_wp2
  go_loopw [5] (fun iv wr => ∃ i : Nat, i ≤ n ∧ iv = .int .i64 i ∧ Hid (Fr No w wr)) (fun iv _ => n - (intOf iv).toNat)
  case atStart => exact ⟨0, by omega, rfl, Lib.hid (Fr.refl _ _)⟩
  case round =>
    obtain ⟨i, hi, rfl, HI⟩ := hrel
    by_cases hlt : i < n
    · have hil : i < l.length := by rw [HN.out]; exact hlt
      obtain ⟨g1, o1, cc1, e1, _, _, hc1⟩ := Facts.at_ H1.out (by omega)
      injection e1 with e1 ea eb
      subst e1
      clear ea eb
      obtain ⟨g2, o2, cc2, e2, _, _, hc2⟩ := Facts.at_ H2.out (by omega)
      injection e2 with e2 ea eb
      subst e2
      clear ea eb
      obtain ⟨dv1, mv1, p0, p1, rd1, rm1⟩ := hc1 i hil
      obtain ⟨dv2, mv2, q0, q1, rd2, rm2⟩ := hc2 i hil
      obtain ⟨D, hD⟩ : ∃ D, l[i].dims = D := ⟨_, rfl⟩
      obtain ⟨E, hE⟩ : ∃ E, l[i].meas = E := ⟨_, rfl⟩
      rw [hD] at rd1 rd2
      rw [hE] at rm1 rm2
      obtain ⟨B1, b1, rfl⟩ := rd1.slice
      obtain ⟨B2, b2, rfl⟩ := rd2.slice
      obtain ⟨M1, m1, rfl⟩ := rm1.slice
      obtain ⟨M2, m2, rfl⟩ := rm2.slice
      have hd1 := rd1.len_le
      have hd2 := rm1.len_le
      unfold maxLen at hd1 hd2
      obtain ⟨d, hd⟩ : ∃ d, D.length = d := ⟨_, rfl⟩
      obtain ⟨m, hm⟩ : ∃ m, E.length = m := ⟨_, rfl⟩
      have HDD := Lib.hid hd
      have HMM := Lib.hid hm
      rw [hd] at p0 q0 rd1 rd2 hd1
      rw [hm] at p1 q1 rm1 rm2 hd2
      have HC : Hid (∀ wx, Fr No w wx → wx.cell? ⟨g1, o1 + i * 2, none⟩ = some (.slice B1 d b1) ∧ wx.cell? ⟨g1, o1 + i * 2 + 1, none⟩ = some (.slice M1 m m1) ∧ wx.cell? ⟨g2, o2 + i * 2, none⟩ = some (.slice B2 d b2) ∧ wx.cell? ⟨g2, o2 + i * 2 + 1, none⟩ = some (.slice M2 m m2)) := Lib.hid fun wx fx => ⟨fx.cell_no' p0, fx.cell_no' p1, fx.cell_no' q0, fx.cell_no' q1⟩
      have HT : Hid (∀ k, k < d → ∃ (x y : Nat × Nat) (t : Tx), B1 = some ⟨x.1, x.2, none⟩ ∧ B2 = some ⟨y.1, y.2, none⟩ ∧ ∀ wx, Fr No w wx → wx.cell? ⟨x.1, x.2 + k, none⟩ = some (encT t) ∧ wx.cell? ⟨y.1, y.2 + k, none⟩ = some (encT t)) := Lib.hid fun k hk => by
        have hk' : k < D.length := by omega
        obtain ⟨x1, x2, _, ex, _, _, hx⟩ := texts_at rd1 (by omega)
        obtain ⟨y1, y2, _, ey, _, _, hy⟩ := texts_at rd2 (by omega)
        injection ex with ex _ _
        injection ey with ey _ _
        exact ⟨(x1, x2), (y1, y2), D[k], ex, ey, fun wx fx => ⟨fx.cell_no' (hx k hk'), fx.cell_no' (hy k hk')⟩⟩
      have HU : Hid (∀ k, k < m → ∃ (x y : Nat × Nat) (t : Int), M1 = some ⟨x.1, x.2, none⟩ ∧ M2 = some ⟨y.1, y.2, none⟩ ∧ ∀ wx, Fr No w wx → wx.cell? ⟨x.1, x.2 + k, none⟩ = some (.int .i64 t) ∧ wx.cell? ⟨y.1, y.2 + k, none⟩ = some (.int .i64 t)) := Lib.hid fun k hk => by
        have hk' : k < E.length := by omega
        obtain ⟨x1, x2, _, ex, _, _, hx⟩ := ints_at rm1 (by omega)
        obtain ⟨y1, y2, _, ey, _, _, hy⟩ := ints_at rm2 (by omega)
        injection ex with ex _ _
        injection ey with ey _ _
        exact ⟨(x1, x2), (y1, y2), E[k], ex, ey, fun wx fx => ⟨fx.cell_no' (hx k hk'), fx.cell_no' (hy k hk')⟩⟩
      obtain ⟨k1, k2, k3, k4⟩ := HC.out wr HI.out
      have hiI : (0 : Int) ≤ (i : Int) := by omega
      have hiN : (i : Int) < (n : Int) := by omega
      clear hc1 hc2 p0 p1 q0 q1 rd1 rd2 rm1 rm2 hd hm hD hE
      go_upto_region 6 with fail
      go_quiet (fail)
      obtain ⟨wa, hwa⟩ : ∃ wa, wr.drewN nq = wa := ⟨_, rfl⟩
      have HA : Hid (Fr No w wa) := Lib.hid (by rw [← hwa]; exact HI.out.drewN nq)
      rw [hwa]
      clear hwa k1 k2 k3 k4
      go_wp2
      go_loopw [6] (fun kv wr => ∃ k : Nat, k ≤ d ∧ kv = .int .i64 k ∧ Hid (Fr No w wr)) (fun kv _ => d - (intOf kv).toNat)
      case atStart => exact ⟨0, by omega, rfl, HA⟩
      case round =>
        obtain ⟨k, hk, rfl, HK⟩ := hrel
        obtain ⟨k1, k2, k3, k4⟩ := HC.out wr HK.out
        by_cases hkd : k < d
        · obtain ⟨⟨x1, x2⟩, ⟨y1, y2⟩, t, e1, e2, ht⟩ := HT.out k hkd
          subst e1
          subst e2
          obtain ⟨t1, t2⟩ := ht wr HK.out
          unfold encT at t1 t2
          clear ht HT
          have hk0 : (0 : Int) ≤ (k : Int) := by omega
          have hkI : (k : Int) < (d : Int) := by omega
          generalize (⟨t.toArray⟩ : ByteArray) = tz at *
          go_upto_region 11 with fail
          go_quiet (fail)
          have HB : Hid (Fr No w (wr.drewN nq)) := Lib.hid (HK.out.drewN nq)
          go_wp2
          go_roundw
          case rel => exact ⟨k + 1, by omega, by go_num, HB⟩
          case measure => simp [intOf]; omega
        · obtain rfl : k = d := by omega
          go_wp2
          clear k1 k2 k3 k4
          go_loopw [7] (fun kv wr => ∃ p : Nat, p ≤ m ∧ kv = .int .i64 p ∧ Hid (Fr No w wr)) (fun kv _ => m - (intOf kv).toNat)
          case atStart => exact ⟨0, by omega, rfl, HK⟩
          case round =>
            obtain ⟨p, hp, rfl, HP⟩ := hrel
            obtain ⟨k1, k2, k3, k4⟩ := HC.out wr HP.out
            by_cases hpm : p < m
            · obtain ⟨⟨x1, x2⟩, ⟨y1, y2⟩, t, e1, e2, ht⟩ := HU.out p hpm
              subst e1
              subst e2
              obtain ⟨t1, t2⟩ := ht wr HP.out
              clear ht HU
              have hk0 : (0 : Int) ≤ (p : Int) := by omega
              have hkI : (p : Int) < (m : Int) := by omega
              go_upto_region 16 with fail
              go_quiet (fail)
              have HB : Hid (Fr No w (wr.drewN nq)) := Lib.hid (HP.out.drewN nq)
              go_wp2
              go_roundw
              case rel => exact ⟨p + 1, by omega, by go_num, HB⟩
              case measure => simp [intOf]; omega
            · obtain rfl : p = m := by omega
              go_wp2
              go_roundw
              case rel => exact ⟨i + 1, by omega, by go_num, HP⟩
              case measure => simp [intOf]; omega
    · obtain rfl : i = n := by omega
      go_wp2
      go_ret
      exact ⟨rfl, HI.out⟩
end Go.Proofs.Ytmaeejojmbibnaa
