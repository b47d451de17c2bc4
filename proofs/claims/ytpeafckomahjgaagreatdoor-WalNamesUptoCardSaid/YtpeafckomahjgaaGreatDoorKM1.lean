/- The check of a text, plain: step by step, half a byte at once, and that one turned byte turns it. Numbers as bytes. -/
namespace Go.Proofs.YtpeafckomahjgaaGreatDoor

/-! ### the check -/
theorem xor_lcomm (a b c : Nat) : a ^^^ (b ^^^ c) = b ^^^ (a ^^^ c) := by rw [← Nat.xor_assoc, Nat.xor_comm a b, Nat.xor_assoc]
theorem xor_eq_zero {a b : Nat} (h : a ^^^ b = 0) : a = b := by
  have e : a = a ^^^ b ^^^ b := by rw [Nat.xor_assoc, Nat.xor_self, Nat.xor_zero]
  rw [e, h, Nat.zero_xor]
def poly : Nat := 3988292384
def stp (c : Nat) : Nat := c / 2 ^^^ (c % 2) * poly
def stn : Nat → Nat → Nat
  | 0, c => c
  | n + 1, c => stn n (stp c)
def feed (c b : Nat) : Nat := stn 8 (c ^^^ b)
def runc (c : Nat) (l : List UInt8) : Nat := l.foldl (fun c b => feed c b.toNat) c
def crc (l : List UInt8) : Nat := runc 4294967295 l ^^^ 4294967295

theorem stp_lt {c : Nat} (h : c < 2 ^ 32) : stp c < 2 ^ 32 := by
  unfold stp poly
  exact Nat.xor_lt_two_pow (by omega) (by have : c % 2 < 2 := Nat.mod_lt _ (by decide); omega)
theorem stn_lt {n : Nat} : ∀ {c : Nat}, c < 2 ^ 32 → stn n c < 2 ^ 32 := by
  induction n with
  | zero => intro c h; exact h
  | succ n ih => intro c h; exact ih (stp_lt h)
theorem stp_xor (a b : Nat) : stp (a ^^^ b) = stp a ^^^ stp b := by
  have hd : (a ^^^ b) / 2 = a / 2 ^^^ b / 2 := Nat.xor_div_two
  have hm : (a ^^^ b) % 2 = a % 2 ^^^ b % 2 := by simpa using @Nat.xor_mod_two_pow a b 1
  unfold stp
  rw [hd, hm]
  have ha : a % 2 = 0 ∨ a % 2 = 1 := by omega
  have hb : b % 2 = 0 ∨ b % 2 = 1 := by omega
  rcases ha with ha | ha <;> rcases hb with hb | hb <;> rw [ha, hb]
  · simp
  · simp [Nat.xor_assoc]
  · simp
    rw [Nat.xor_assoc, Nat.xor_comm (b / 2) poly, ← Nat.xor_assoc]
  · simp
    rw [Nat.xor_assoc, xor_lcomm poly, Nat.xor_self, Nat.xor_zero]
theorem stn_xor (n : Nat) : ∀ a b : Nat, stn n (a ^^^ b) = stn n a ^^^ stn n b := by
  induction n with
  | zero => intro a b; rfl
  | succ n ih => intro a b; show stn n (stp (a ^^^ b)) = _; rw [stp_xor, ih]; rfl
theorem stp_even (h : Nat) : stp (2 * h) = h := by
  unfold stp
  rw [show 2 * h / 2 = h by omega, show 2 * h % 2 = 0 by omega]; simp
theorem stn4_hi (h : Nat) : stn 4 (16 * h) = h := by
  show stp (stp (stp (stp (16 * h)))) = h
  rw [show 16 * h = 2 * (8 * h) by omega, stp_even, show 8 * h = 2 * (4 * h) by omega, stp_even, show 4 * h = 2 * (2 * h) by omega, stp_even, stp_even]
theorem split16 (c : Nat) : c = 16 * (c / 16) ^^^ c % 16 := by
  have hd := @Nat.xor_div_two_pow (16 * (c / 16)) (c % 16) 4
  have hm := @Nat.xor_mod_two_pow (16 * (c / 16)) (c % 16) 4
  rw [show (16 * (c / 16)) / 2 ^ 4 = c / 16 by omega, show (c % 16) / 2 ^ 4 = 0 by omega, Nat.xor_zero] at hd
  rw [show (16 * (c / 16)) % 2 ^ 4 = 0 by omega, show (c % 16) % 2 ^ 4 = c % 16 by omega, Nat.zero_xor] at hm
  omega
theorem stn4 (c : Nat) : stn 4 c = c / 16 ^^^ stn 4 (c % 16) := by
  conv => lhs; rw [split16 c]
  rw [stn_xor, stn4_hi]
theorem stn8 (c : Nat) : stn 8 c = stn 4 (stn 4 c) := rfl
theorem stn_succ (n c : Nat) : stn (n + 1) c = stn n (stp c) := rfl
theorem stn_last (n : Nat) : ∀ c : Nat, stn (n + 1) c = stp (stn n c) := by
  induction n with
  | zero => intro c; rfl
  | succ n ih => intro c; rw [stn_succ, ih]; rfl
theorem feed_lt {c b : Nat} (hc : c < 2 ^ 32) (hb : b < 256) : feed c b < 2 ^ 32 := stn_lt (Nat.xor_lt_two_pow hc (by omega))
theorem runc_lt : ∀ (l : List UInt8) {c : Nat}, c < 2 ^ 32 → runc c l < 2 ^ 32 := by
  intro l
  induction l with
  | nil => intro c h; exact h
  | cons b l ih => intro c h; exact ih (feed_lt h b.toNat_lt)
theorem crc_lt (l : List UInt8) : crc l < 2 ^ 32 := Nat.xor_lt_two_pow (runc_lt l (by decide)) (by decide)
theorem runc_snoc (c : Nat) (l : List UInt8) (b : UInt8) : runc c (l ++ [b]) = feed (runc c l) b.toNat := by simp [runc]
theorem runc_append (c : Nat) (l m : List UInt8) : runc c (l ++ m) = runc (runc c l) m := by simp [runc]

/-! a step is one to one -/
theorem stp_zero {c : Nat} (h : c < 2 ^ 32) (h0 : stp c = 0) : c = 0 := by
  unfold stp at h0
  have hm : c % 2 = 0 ∨ c % 2 = 1 := by omega
  rcases hm with hm | hm
  · rw [hm, Nat.zero_mul, Nat.xor_zero] at h0; omega
  · rw [hm, Nat.one_mul] at h0
    exfalso
    have e : c / 2 = poly := xor_eq_zero h0
    unfold poly at e; omega
theorem stn_zero {n : Nat} : ∀ {c : Nat}, c < 2 ^ 32 → stn n c = 0 → c = 0 := by
  induction n with
  | zero => intro c _ h; exact h
  | succ n ih => intro c h h0; exact stp_zero h (ih (stp_lt h) h0)
theorem stn_inj {n a b : Nat} (ha : a < 2 ^ 32) (hb : b < 2 ^ 32) (h : stn n a = stn n b) : a = b := by
  have : stn n (a ^^^ b) = 0 := by rw [stn_xor, h, Nat.xor_self]
  exact xor_eq_zero (stn_zero (Nat.xor_lt_two_pow ha hb) this)
theorem xor_right_inj {a b c : Nat} (h : a ^^^ c = b ^^^ c) : a = b := by
  have := congrArg (· ^^^ c) h
  simpa [Nat.xor_assoc] using this
theorem xor_left_inj {a b c : Nat} (h : c ^^^ a = c ^^^ b) : a = b := by
  rw [Nat.xor_comm c a, Nat.xor_comm c b] at h; exact xor_right_inj h
theorem feed_inj {a b : Nat} (c : UInt8) (ha : a < 2 ^ 32) (hb : b < 2 ^ 32) (h : feed a c.toNat = feed b c.toNat) : a = b :=
  xor_right_inj (stn_inj (Nat.xor_lt_two_pow ha (Nat.lt_trans c.toNat_lt (by decide))) (Nat.xor_lt_two_pow hb (Nat.lt_trans c.toNat_lt (by decide))) h)
theorem feed_byte {a : Nat} (c d : UInt8) (ha : a < 2 ^ 32) (h : feed a c.toNat = feed a d.toNat) : c = d :=
  UInt8.toNat_inj.1 (xor_left_inj (stn_inj (Nat.xor_lt_two_pow ha (Nat.lt_trans c.toNat_lt (by decide))) (Nat.xor_lt_two_pow ha (Nat.lt_trans d.toNat_lt (by decide))) h))
theorem runc_inj : ∀ (l : List UInt8) {a b : Nat}, a < 2 ^ 32 → b < 2 ^ 32 → runc a l = runc b l → a = b := by
  intro l
  induction l with
  | nil => intro a b _ _ h; exact h
  | cons c l ih => intro a b ha hb h; exact feed_inj c ha hb (ih (feed_lt ha c.toNat_lt) (feed_lt hb c.toNat_lt) h)
/-- A text of which one byte was turned has another check. -/
theorem crc_turned (l m : List UInt8) (c d : UInt8) (hne : c ≠ d) : crc (l ++ c :: m) ≠ crc (l ++ d :: m) := by
  intro h
  have h1 := xor_right_inj h
  rw [runc_append, runc_append] at h1
  have hl := runc_lt l (c := 4294967295) (by decide)
  exact hne (feed_byte c d hl (runc_inj m (feed_lt hl c.toNat_lt) (feed_lt hl d.toNat_lt) h1))

/-! ### numbers as bytes, the lowest first -/
/-- k bytes of n. -/
def low (n : Nat) : Nat → List UInt8
  | 0 => []
  | k + 1 => UInt8.ofNat (n % 256) :: low (n / 256) k
/-- the number whose bytes these are -/
def num : List UInt8 → Nat
  | [] => 0
  | b :: l => b.toNat + 256 * num l
theorem low_len (k : Nat) : ∀ n, (low n k).length = k := by
  induction k with
  | zero => intro n; rfl
  | succ k ih => intro n; simp [low, ih]
theorem num_low (k : Nat) : ∀ n, num (low n k) = n % 256 ^ k := by
  induction k with
  | zero => intro n; simp [low, num, Nat.mod_one]
  | succ k ih =>
    intro n
    have e : (UInt8.ofNat (n % 256)).toNat = n % 256 := by simp
    rw [low, num, ih, e, Nat.pow_succ, Nat.mul_comm (256 ^ k) 256, Nat.mod_mul]
theorem num_low_of {k n : Nat} (h : n < 256 ^ k) : num (low n k) = n := by rw [num_low, Nat.mod_eq_of_lt h]
theorem num_lt : ∀ l : List UInt8, num l < 256 ^ l.length := by
  intro l
  induction l with
  | nil => simp [num]
  | cons b l ih =>
    have := b.toNat_lt
    simp only [num, List.length_cons, Nat.pow_succ]
    omega
theorem low_num : ∀ l : List UInt8, low (num l) l.length = l := by
  intro l
  induction l with
  | nil => rfl
  | cons b l ih =>
    have hb := b.toNat_lt
    simp only [num, List.length_cons, low]
    rw [show (b.toNat + 256 * num l) % 256 = b.toNat by omega, show (b.toNat + 256 * num l) / 256 = num l by omega, ih]
    simp
theorem num_append (l m : List UInt8) : num (l ++ m) = num l + 256 ^ l.length * num m := by
  induction l with
  | nil => simp [num]
  | cons b l ih =>
    simp only [List.cons_append, num, ih, List.length_cons, Nat.pow_succ]
    rw [Nat.mul_add, ← Nat.mul_assoc, Nat.mul_comm 256 (256 ^ l.length)]
    omega
theorem low_snoc (k : Nat) : ∀ n, low n (k + 1) = low n k ++ [UInt8.ofNat (n / 256 ^ k % 256)] := by
  induction k with
  | zero => intro n; simp [low]
  | succ k ih =>
    intro n
    rw [low, ih, low]
    simp [Nat.pow_succ, Nat.div_div_eq_div_mul, Nat.mul_comm]
theorem low_get (k : Nat) : ∀ (n i : Nat), i < k → (low n k)[i]? = some (UInt8.ofNat (n / 256 ^ i % 256)) := by
  induction k with
  | zero => intro n i h; omega
  | succ k ih =>
    intro n i h
    cases i with
    | zero => simp [low]
    | succ i =>
      rw [low, List.getElem?_cons_succ, ih _ _ (by omega)]
      simp [Nat.pow_succ, Nat.div_div_eq_div_mul, Nat.mul_comm]
end Go.Proofs.YtpeafckomahjgaaGreatDoor
